import PyProof.Rows.All
import Wide.All
import OpenK.AllK
import Wide.FinOn
import KE.KStateDown
import KE.GoesMore
import KE.GoesEnum
import KE.KFmtOwn
import PyProof.InstEq
import HandS.ForMost
import HandS.Defaults
import HandS.IsInst
import HandS.OwnEq
import HandS.Wide
import HandS.WideMore
import Lean
import HandS.Head0
import HandS.Head1
import HandS.Head2
import HandS.HeadEnd
import HandS.HeadHook1
import HandS.HeadHook2
import HandS.Style
import HandS.RaiseMore
import HandS.StrMore
import HandS.Conv
import HandS.More
import HandS.Codes
import PySem.Challenge.RW_turncouple_k01_numbers_made
set_option Elab.async false
set_option linter.all false
set_option maxRecDepth 100000
set_option maxHeartbeats 4000000
/-! The mathematics, in plain Lean. -/
namespace TCM
/-! ### the greatest common divisor, by steps with Python's remainder -/
theorem gcd_fmod (a b : Int) : Int.gcd b (a.fmod b) = Int.gcd a b := by
  have e : a.fmod b = a - b * a.fdiv b := by
    have := Int.fmod_add_mul_fdiv a b
    omega
  rw [e, Int.gcd_comm a b]
  apply Nat.dvd_antisymm
  · refine Int.dvd_gcd (Int.gcd_dvd_left ..) ?_
    have h1 : ((Int.gcd b (a - b * a.fdiv b) : Nat) : Int) ∣ b := Int.gcd_dvd_left ..
    have h2 : ((Int.gcd b (a - b * a.fdiv b) : Nat) : Int) ∣ a - b * a.fdiv b := Int.gcd_dvd_right ..
    have h3 := Int.dvd_add h2 (Int.dvd_mul_of_dvd_left (c := a.fdiv b) h1)
    have e2 : a - b * a.fdiv b + b * a.fdiv b = a := by omega
    rw [e2] at h3
    exact h3
  · refine Int.dvd_gcd (Int.gcd_dvd_left ..) ?_
    have h1 : ((Int.gcd b a : Nat) : Int) ∣ b := Int.gcd_dvd_left ..
    have h2 : ((Int.gcd b a : Nat) : Int) ∣ a := Int.gcd_dvd_right ..
    exact Int.dvd_sub h2 (Int.dvd_mul_of_dvd_left (c := a.fdiv b) h1)
theorem fmod_lt (a b : Int) (h : b ≠ 0) : (a.fmod b).natAbs < b.natAbs := by
  rcases Int.lt_or_gt_of_ne h with hb | hb
  · have h1 : a.fmod b = a % b + if 0 ≤ b ∨ b ∣ a then 0 else b := Int.fmod_eq_emod
    have := Int.emod_nonneg a h
    have := Int.emod_lt_of_pos a (b := -b) (by omega)
    rw [Int.emod_neg] at this
    rw [h1]
    split
    · omega
    · rename_i z
      have : a % b ≠ 0 := fun e => z (.inr (Int.dvd_of_emod_eq_zero e))
      omega
  · have h1 := Int.fmod_nonneg_of_pos a hb
    have h2 := Int.fmod_lt_of_pos a hb
    omega
theorem abs_eq (i : Int) : (if i < 0 then -i else i) = ((i.natAbs : Nat) : Int) := by
  split <;> omega
/-! ### a fraction in lowest terms -/
def sgn (t b : Int) : Int := if b < 0 then -((Int.gcd t b : Nat) : Int) else ((Int.gcd t b : Nat) : Int)
def low (t b : Int) : Int × Int := (t.fdiv (sgn t b), b.fdiv (sgn t b))
/-- as the law says it -/
def lowL (t b : Int) : Int × Int := if 0 < b then (t.fdiv ((Int.gcd t b : Nat) : Int), b.fdiv ((Int.gcd t b : Nat) : Int)) else ((-t).fdiv ((Int.gcd t b : Nat) : Int), (-b).fdiv ((Int.gcd t b : Nat) : Int))
theorem low_eq (t b : Int) (h : b ≠ 0) : low t b = lowL t b := by
  unfold low lowL sgn
  by_cases hb : b < 0
  · rw [if_pos hb, if_neg (by omega)]
    have e1 := Int.neg_fdiv_neg (-t) ((Int.gcd t b : Nat) : Int)
    have e2 := Int.neg_fdiv_neg (-b) ((Int.gcd t b : Nat) : Int)
    rw [Int.neg_neg] at e1 e2
    rw [e1, e2]
  · rw [if_neg hb, if_pos (by omega)]
theorem gcd_pos (t b : Int) (h : b ≠ 0) : 0 < Int.gcd t b := by
  have : Int.gcd t b ≠ 0 := fun e => h (Int.gcd_eq_zero_iff.mp e).2
  omega
theorem gcd_le (t b : Int) (h : b ≠ 0) : Int.gcd t b ≤ b.natAbs := by
  show Nat.gcd t.natAbs b.natAbs ≤ b.natAbs
  exact Nat.gcd_le_right _ (by omega)
theorem sgn_ne (t b : Int) (h : b ≠ 0) : sgn t b ≠ 0 := by
  have := gcd_pos t b h
  unfold sgn
  split <;> omega
theorem sgn_abs (t b : Int) : (sgn t b).natAbs = Int.gcd t b := by
  unfold sgn
  split <;> omega
/-- the quotients are no larger -/
theorem fdiv_abs (t d : Int) (h : d ≠ 0) (hd : d ∣ t) : (t.fdiv d).natAbs ≤ t.natAbs := by
  obtain ⟨k, rfl⟩ := hd
  rw [Int.mul_fdiv_cancel_left k h, Int.natAbs_mul]
  exact Nat.le_mul_of_pos_left _ (by omega)
theorem sgn_dvd (t b : Int) : sgn t b ∣ t ∧ sgn t b ∣ b := by
  have h1 : ((Int.gcd t b : Nat) : Int) ∣ t := Int.gcd_dvd_left ..
  have h2 : ((Int.gcd t b : Nat) : Int) ∣ b := Int.gcd_dvd_right ..
  unfold sgn
  split
  · exact ⟨Int.neg_dvd.mpr h1, Int.neg_dvd.mpr h2⟩
  · exact ⟨h1, h2⟩
theorem low_abs (t b : Int) (h : b ≠ 0) : (low t b).1.natAbs ≤ t.natAbs ∧ (low t b).2.natAbs ≤ b.natAbs :=
  ⟨fdiv_abs t _ (sgn_ne t b h) (sgn_dvd t b).1, fdiv_abs b _ (sgn_ne t b h) (sgn_dvd t b).2⟩
theorem low_pos (t b : Int) (h : b ≠ 0) : 0 < (low t b).2 := by
  obtain ⟨k, hk⟩ := (sgn_dvd t b).2
  have hs := sgn_ne t b h
  have e : (low t b).2 = k := by
    show b.fdiv (sgn t b) = k
    rw [hk, ← hk]
    have e2 : b.fdiv (sgn t b) = (sgn t b * k).fdiv (sgn t b) := by rw [← hk]
    rw [e2]
    exact Int.mul_fdiv_cancel_left k hs
  rw [e]
  have g0 := gcd_pos t b h
  unfold sgn at hk
  by_cases hb : b < 0
  · rw [if_pos hb] at hk
    rcases Int.lt_trichotomy k 0 with z | z | z
    · exfalso
      have := Int.mul_nonneg_of_nonpos_of_nonpos (a := -((Int.gcd t b : Nat) : Int)) (b := k) (by omega) (by omega)
      omega
    · rw [z] at hk
      omega
    · exact z
  · rw [if_neg hb] at hk
    rcases Int.lt_trichotomy k 0 with z | z | z
    · exfalso
      have := Int.mul_nonneg (a := ((Int.gcd t b : Nat) : Int)) (b := -k) (by omega) (by omega)
      rw [Int.mul_neg] at this
      omega
    · rw [z] at hk
      omega
    · exact z
theorem low_one (t : Int) : low t 1 = (t, 1) := by
  unfold low sgn
  rw [if_neg (by decide), Int.gcd_one]
  show (t.fdiv 1, (1 : Int).fdiv 1) = (t, 1)
  rw [Int.fdiv_one]
  rfl
/-! ### squares taken out -/
/-- while n % (p * p) == 0: n //= p * p; o *= p -/
def whl : Nat → Int → Int → Int → Int × Int
  | 0, _, n, o => (n, o)
  | k + 1, p, n, o => if n % (p * p) = 0 then whl k p (n / (p * p)) (o * p) else (n, o)
/-- as squares_out goes on: over the primes, until 1 is left: (outside, inside, rest) -/
def sqL : List Int → Int → Int → Int → Int × Int × Int
  | [], n, o, i => (o, i, n)
  | p :: ps, n, o, i => if n = 1 then (o, i, n) else
    if (whl 10 p n o).1 % p = 0 then sqL ps ((whl 10 p n o).1 / p) (whl 10 p n o).2 (i * p) else sqL ps (whl 10 p n o).1 (whl 10 p n o).2 i
/-- as the law goes on: over all numbers -/
def fr : Nat → Int → Int → Int → Int × Int
  | 0, _, n, s => (s, n)
  | k + 1, p, n, s => if p * p ≤ n then fr k (p + 1) (whl 10 p n s).1 (whl 10 p n s).2 else (s, n)
theorem sq_div {n q : Int} (h0 : 0 < n) (hq : 4 ≤ q) (h : n % q = 0) : 0 < n / q ∧ n / q * 4 ≤ n ∧ n / q < n := by
  have e := Int.mul_ediv_add_emod n q
  rw [h, Int.add_zero] at e
  have h1 : 0 < n / q := by
    rcases Int.lt_or_le 0 (n / q) with z | z
    · exact z
    · have := Int.mul_le_mul_of_nonneg_left z (show 0 ≤ q by omega)
      rw [Int.mul_zero] at this
      omega
  have h2 : n / q * 4 ≤ n / q * q := Int.mul_le_mul_of_nonneg_left hq (by omega)
  rw [Int.mul_comm q] at e
  exact ⟨h1, by omega, by omega⟩
theorem pp4 {p : Int} (h : 2 ≤ p) : 4 ≤ p * p := by
  have := Int.mul_le_mul h h (by omega) (by omega)
  omega
theorem whl_ok : ∀ (k : Nat) (p n o : Int), 2 ≤ p → 0 < n → 0 < (whl k p n o).1 ∧ (whl k p n o).1 ≤ n
  | 0, p, n, o, _, h => ⟨h, Int.le_refl _⟩
  | k + 1, p, n, o, hp, h => by
    unfold whl
    split
    · rename_i z
      obtain ⟨a, b, c⟩ := sq_div h (pp4 hp) z
      obtain ⟨d, e⟩ := whl_ok k p (n / (p * p)) (o * p) hp a
      exact ⟨d, by omega⟩
    · exact ⟨h, Int.le_refl _⟩
/-- the loop's measure: whl with more fuel is the same -/
theorem whl_fuel : ∀ (k j : Nat) (p n o : Int), 2 ≤ p → 0 < n → n < 4 ^ k → whl (k + j) p n o = whl k p n o
  | 0, j, p, n, o, _, h, h2 => by
    have : n < 1 := h2
    omega
  | k + 1, j, p, n, o, hp, h, h2 => by
    rw [Nat.add_right_comm]
    show (if n % (p * p) = 0 then whl (k + j) p (n / (p * p)) (o * p) else (n, o)) = (if n % (p * p) = 0 then whl k p (n / (p * p)) (o * p) else (n, o))
    split
    · rename_i z
      obtain ⟨a, b, c⟩ := sq_div h (pp4 hp) z
      exact whl_fuel k j p _ _ hp a (by
        have e : (4 : Int) ^ (k + 1) = 4 ^ k * 4 := Int.pow_succ ..
        omega)
    · rfl
def primes : List Int := [2, 3, 5, 7, 11, 13, 17, 19, 23, 29, 31, 37, 41, 43, 47, 53, 59, 61, 67, 71, 73, 79, 83, 89, 97, 101, 103, 107, 109, 113, 127, 131, 137, 139, 149, 151, 157, 163, 167, 173, 179, 181, 191, 193, 197, 199, 211, 223, 227, 229, 233, 239, 241, 251, 257, 263, 269, 271, 277, 281, 283, 293, 307, 311, 313, 317, 331, 337, 347, 349, 353, 359, 367, 373, 379, 383, 389, 397, 401, 409, 419, 421, 431, 433, 439, 443, 449, 457, 461, 463, 467, 479, 487, 491, 499, 503, 509, 521, 523, 541, 547, 557, 563, 569, 571, 577, 587, 593, 599, 601, 607, 613, 617, 619, 631, 641, 643, 647, 653, 659, 661, 673, 677, 683, 691, 701, 709, 719, 727, 733, 739, 743, 751, 757, 761, 769, 773, 787, 797, 809, 811, 821, 823, 827, 829, 839, 853, 857, 859, 863, 877, 881, 883, 887, 907, 911, 919, 929, 937, 941, 947, 953, 967, 971, 977, 983, 991, 997]
def sqOut (n : Int) : Int × Int × Int := if n = 0 then (0, 1, 1) else sqL primes n 1 1
def free (n : Int) : Int × Int := fr 1000 2 n 1
/-- the roots that the law takes -/
def chk (r : Int) : Bool := match sqOut r, free r with
  | (o, i, m), (s, f) => decide (m = 1) && (decide (0 ≤ o) && (decide (o ≤ 1000) && (decide (1 ≤ i) && (decide (i ≤ 1000000) && (decide (r = 0) || (decide (0 < o) && (decide (s = o) && decide (f = i))))))))
def some11 : List Int := [0, 1, 4, 12, 997, 997 * 997, 2 ^ 19, 510510, 720720, 1000000, 30 * 30 * 7]
theorem chk_11 : some11.all chk = true := by decide +kernel
theorem chk_900 : (List.range 900).all (fun k => chk (1 + (k : Int))) = true := by decide +kernel
def Ok (r : Int) : Prop := 0 ≤ r ∧ r ≤ 1000000 ∧ chk r = true
theorem ok_11 {r : Int} (h : r ∈ some11) : Ok r := by
  refine ⟨?_, ?_, List.all_eq_true.mp chk_11 r h⟩
  · revert r; decide
  · revert r; decide
theorem ok_900 {d : Int} (h0 : 0 ≤ d) (h1 : d < 900) : Ok (1 + d) := by
  refine ⟨by omega, by omega, ?_⟩
  have := List.all_eq_true.mp chk_900 d.toNat (List.mem_range.mpr (by omega))
  rw [Int.toNat_of_nonneg h0] at this
  exact this
theorem Ok.all {r : Int} (h : Ok r) : (sqOut r).2.2 = 1 ∧ 0 ≤ (sqOut r).1 ∧ (sqOut r).1 ≤ 1000 ∧ 1 ≤ (sqOut r).2.1 ∧ (sqOut r).2.1 ≤ 1000000 ∧ (r ≠ 0 → 0 < (sqOut r).1 ∧ free r = ((sqOut r).1, (sqOut r).2.1)) := by
  obtain ⟨_, _, h⟩ := h
  unfold chk at h
  generalize sqOut r = a at h ⊢
  generalize free r = b at h ⊢
  obtain ⟨o, i, m⟩ := a
  obtain ⟨s, f⟩ := b
  simp only [Bool.and_eq_true, Bool.or_eq_true, decide_eq_true_eq] at h
  obtain ⟨h1, h2, h3, h4, h5, h6⟩ := h
  refine ⟨h1, h2, h3, h4, h5, fun hr => ?_⟩
  rcases h6 with h6 | ⟨h6, h7, h8⟩
  · exact absurd h6 hr
  · exact ⟨h6, by rw [h7, h8]⟩
/-- what exact comes to: no part, or one -/
def ex (top bottom root : Int) : Option (Int × Int × Int) :=
  if top * (sqOut root).1 = 0 then none else some ((sqOut root).2.1, (low (top * (sqOut root).1) bottom).1, (low (top * (sqOut root).1) bottom).2)
/-- what is due, as the law says it -/
def due (up under r : Int) : Option (Int × Int × Int) :=
  if up = 0 ∨ r = 0 then none else some ((free r).2, (lowL (up * (free r).1) under).1, (lowL (up * (free r).1) under).2)
theorem ex_due {t b r : Int} (hb : b ≠ 0) (h : Ok r) : ex t b r = due t b r := by
  obtain ⟨h1, h2, h3, h4, h5, h6⟩ := h.all
  unfold ex due
  by_cases hr : r = 0
  · subst hr
    rw [if_pos (show t * (sqOut 0).1 = 0 from Int.mul_zero _), if_pos (Or.inr rfl)]
  · obtain ⟨h7, h8⟩ := h6 hr
    rw [h8, ← low_eq _ _ hb]
    by_cases ht : t = 0
    · subst ht
      rw [if_pos (Int.zero_mul _), if_pos (Or.inl rfl)]
    · rw [if_neg (show ¬ t * (sqOut r).1 = 0 from fun e => by
        rcases Int.mul_eq_zero.mp e with e | e <;> omega), if_neg (show ¬ (t = 0 ∨ r = 0) by omega)]
theorem ok_one : Ok 1 := ok_11 (by decide)
theorem sq_one : sqOut 1 = (1, 1, 1) := by decide +kernel
theorem ex_one (t : Int) : ex t 1 1 = if t = 0 then none else some (1, t, 1) := by
  unfold ex
  rw [sq_one]
  show (if t * 1 = 0 then none else some ((1 : Int), (low (t * 1) 1).1, (low (t * 1) 1).2)) = _
  rw [Int.mul_one, low_one]
theorem ex_succ (t : Int) : ex t 1 1 ≠ ex (t + 1) 1 1 := by
  rw [ex_one, ex_one]
  split <;> split
  · omega
  · simp
  · simp
  · simp only [ne_eq, Option.some.injEq, Prod.mk.injEq, not_and]
    omega
end TCM
/-! Rules of my own: == and != by an own __eq__ with either answer, str of an instance, enumerate of a tuple. -/
namespace TCA
open PySem PySem.Spec PyProof.Rows L2
/-! ### enumerate(tuple) -/
theorem meets_enum1 {v : Value} {o : Obj} {H : Heap → Prop} (B : Begins v o H) :
    Meets (Builtin.«enumerate.__new__» ⟨[.type "enumerate", v], []⟩) (fun _ R s => H s.heap ∧
      R (.ok (.ret (.ref (s.heap.push o).objs.size))) { s with heap := (s.heap.push o).push { cls := .type "enumerate", data := .fields #[.none, .bool false, .ref s.heap.objs.size, rawInt 0, .none, .none] } }) :=
  .of_wp fun prog w A R s h => by
    obtain ⟨hp, g, d, tk, os⟩ := s; obtain ⟨h1, h⟩ := h
    have hsub := sub_enumerate
    have q1 : ∀ {A' : Around} {E : Value → Shared → Prop} {Q : Value → Shared → Prop}, Q (.ref hp.objs.size) ⟨hp.push o, g, d, tk, os⟩ → wpAny (model prog w) A' (pyIter v) Q E ⟨hp, g, d, tk, os⟩ :=
      fun q => B.iter prog w _ _ ⟨hp, g, d, tk, os⟩ _ h1 q
    wp_walk using q1
    refine wpAny_stack_any fun st => wpAny_pure ?_
    split
    · rename_i c _ _ _ _ _
      cases (c == Value.type "enumerate")
      · wp_walk using q1
        exact ⟨_, rfl, h⟩
      · wp_walk using q1
        exact ⟨_, rfl, h⟩
    · wp_walk using q1
      exact ⟨_, rfl, h⟩
theorem enum_begins1 {prog : Program} {w : World} {A : Around} {E : Value → Shared → Prop} {s : Shared} {v : Value} {o : Obj} {H : Heap → Prop} {Q : Value → Shared → Prop} (B : Begins v o H) (h1 : H s.heap)
    (h : ∀ h', IsEnum h' (s.heap.objs.size + 1) s.heap.objs.size 0 .none → h'.get? s.heap.objs.size = some o → h'.objs.size = s.heap.objs.size + 2 →
      (∀ b o, s.heap.get? b = some o → h'.get? b = some o) → Q (.ref (s.heap.objs.size + 1)) { s with heap := h' }) :
    wpAny (model prog w) A (call (.type "enumerate") [v]) Q E s := by
  refine callType_new F.called_enumerate (by decide) (F.typeCall_enumerate_1 _) (F.newCall_enumerate_1 _) (fun obj => F.args_object_init_2 obj _) F.entry_enumerate_new
    (meets_enum1 B) ⟨h1, ?_⟩
  have hz : (s.heap.push o).objs.size = s.heap.objs.size + 1 := Heap.size_push ..
  show _ ∧ _
  rw [hz]
  have he : IsEnum ((s.heap.push o).push { cls := .type "enumerate", data := .fields #[.none, .bool false, .ref s.heap.objs.size, rawInt 0, .none, .none] }) (s.heap.objs.size + 1) s.heap.objs.size 0 .none := by
    have := Heap.get?_push_size (s.heap.push o) (o := { cls := .type "enumerate", data := .fields #[.none, .bool false, .ref s.heap.objs.size, rawInt 0, .none, .none] }) rfl
    rw [hz] at this; exact this
  refine ⟨⟨_, he, rfl⟩, h _ he (Heap.get?_push_of_some _ (Heap.get?_push_size _ B.free)) (by rw [Heap.size_push, hz]) fun b o x => Heap.get?_push_of_some _ (Heap.get?_push_of_some _ x)⟩
/-- the tuple at a of xs, each item in a new pair -/
def Iet (K : PySem.W.Frag) (a : Addr) (xs : List V) : It :=
  ⟨fun i H => i < xs.length ∧ SqT K H a xs, fun i H v H' => ∃ T x, v = .ref T ∧ H T = none ∧ H' = upd H T (.tup [.int (i : Nat), x]) ∧ xs[i]? = some x, fun i H => xs.length ≤ i ∧ SqT K H a xs⟩
theorem turn_enumT {P : Program} {w : World} {K : PySem.W.Frag} {elts : List Expr} {kk : Nat} {tpos : Pos} (a e it : Addr) (xs : List V) :
    Turn P w K (.Tuple elts kk tpos) (Iet K a xs) [e, it] e (fun i h => (∃ old, IsEnum h e it ((i : Nat) : Int) old) ∧ h.IsTupleIter it a i ∧ e ≠ it ∧ a ≠ it ∧ e ≠ a ∧ i ≤ xs.length) where
  mem := by simp
  obj := fun i h st b hb => by
    obtain ⟨⟨old, he⟩, ⟨o, ho, hc, hd⟩, _⟩ := st
    have e' : b = e ∨ b = it := by simpa using hb
    rcases e' with z | z
    · rw [z]; exact ⟨_, he, fun v q => nomatch q⟩
    · rw [z]; exact ⟨o, ho, fun v q => by rw [hd] at q; cases q⟩
  keep := fun i h h' st k => let ⟨⟨old, he⟩, hi, hne⟩ := st; ⟨⟨old, k e (by simp) _ he⟩, hi.at fun o q => k it (by simp) o q, hne⟩
  item := by
    intro X hP hw hK hc i pins s σ H E I hf st hg
    subst hP hw hK
    obtain ⟨⟨old, he⟩, hit, hne, hai, hea, hle⟩ := st
    obtain ⟨hlt, hq⟩ := hg
    obtain ⟨its, rv, p, hz⟩ := I.tuple hq
    have hl := rv.length
    have hel : e < s.heap.objs.size := Heap.lt_size he
    have hil : it < s.heap.objs.size := by obtain ⟨_, q, _⟩ := hit; exact Heap.lt_size q
    have hh : X.A.in1.handled = none := I.ok.hd hc
    have D := Draws.tuple (prog := X.prog) (w := X.w) hh it a hai its.toArray
    refine wpAny_pyNext_enum_itemD D he ⟨hit, p⟩ (by simp; omega) hne (by simp; exact ⟨hne, hea⟩) fun u h' tk hu ho hst hT hsz hk => ?_
    obtain ⟨hit', _⟩ := hst
    have hu2 : its[i]? = some u := by simpa using hu
    have hx : xs[i]? = some xs[i] := List.getElem?_eq_getElem hlt
    obtain ⟨u2, hu3, ru⟩ := rv.get hx
    have eu : u2 = u := Option.some.inj (hu3.symm.trans hu2)
    subst eu
    refine ⟨_, rfl, wpAny_letOwnedTupleGo_enum (s := { s with heap := h', toks := tk + 1 }) ho fun h'' he' sb => ?_⟩
    have hT2 : h''.get? s.heap.objs.size = some { cls := .type "tuple", data := .seq #[.int i tk, u2] } := (sb.2 _ (Nat.ne_of_gt hel)).trans hT
    have new : ObjOk X.prog X.w (upd H s.heap.objs.size (.tup [.int (i : Nat), xs[i]])) h'' s.heap.objs.size (.tup [.int (i : Nat), xs[i]]) :=
      ⟨by show 2 ≤ sizeLine; decide, [.int i tk, u2], .cons ⟨_, rfl⟩ (.cons ru .nil), ⟨_, hT2, rfl, _, rfl⟩⟩
    have I1 : Inv X pins σ (upd H s.heap.objs.size (.tup [.int (i : Nat), xs[i]])) { s with heap := h'', toks := tk + 1 } :=
      I.turnedNew (ch := [e, it]) (fun b ob hb q => (sb.2 b (fun z => hb (by simp [z]))).trans (hk b ob (fun z => hb (by simp [z])) (fun z => hb (by simp [z])) q)) hf (Nat.le_refl _) new
    refine ⟨.ref s.heap.objs.size, _, I1, rfl, ⟨_, xs[i], rfl, I.hok.fresh (Nat.le_refl _), rfl, hx⟩, ⟨⟨u2, ?_⟩, hit'.at fun o q => (sb.2 it (Ne.symm hne)).trans q, hne, hai, hea, hlt⟩, fun b hb => ?_⟩
    · have e1 : ((i + 1 : Nat) : Int) = (i : Int) + 1 := by omega
      rw [e1]; exact he'
    · have hb' : b < s.heap.objs.size := by
        have e' : b = e ∨ b = it := by simpa using hb
        rcases e' with z | z
        · rw [z]; exact hel
        · rw [z]; exact hil
      rw [upd_ne (Nat.ne_of_lt hb')]
      exact (hf b hb).1
  done := by
    intro X hP hw hK hc i pins s σ H E I hf st hg
    subst hP hw hK
    obtain ⟨⟨old, he⟩, hit, hne, hai, hea, hle⟩ := st
    obtain ⟨hge, hq⟩ := hg
    obtain ⟨its, rv, p, hz⟩ := I.tuple hq
    obtain ⟨f0, f1, f2, f3, f4, f5⟩ := hf it (by simp)
    have hl := rv.length
    have hh : X.A.in1.handled = none := I.ok.hd hc
    have D := Draws.tuple (prog := X.prog) (w := X.w) hh it a hai its.toArray
    have ei : i = its.toArray.size := by simp; omega
    subst ei
    exact wpAny_pyNext_enum_endD D he ⟨hit, p⟩ fun h' eb => ⟨rfl, I.turned (t' := s.toks) (fun b o hb q => eb b o hb q) f0 f1 f3 f4 f5⟩
  self := fun A i s Q E st h => let ⟨⟨_, he⟩, _⟩ := st; wpAny_pyIter_enum he h
def iEnumT (K : PySem.W.Frag) (ta : TA) : TI := fun σ H R => ta σ H fun vs H1 => ∃ a xs, vs = [.ref a] ∧ SqT K H1 a xs ∧ R (Iet K a xs) H1
theorem pi_enumT {X : Cx} {e : Expr} {ta : TA} {p pos tpos : Pos} {elts : List Expr} {kk : Nat} (hg : Gl X "enumerate") (hm : X.mg "enumerate" = none) (ha : PA X [e] ta) (hs : starEach [e] X.env = [(false, eval e X.env)] := by rfl) :
    PI X (.Tuple elts kk tpos) (.Call (.Name "enumerate" p) [e] [] pos) (iEnumT X.K ta) := by
  refine ⟨fun pins s σ H R I h => ?_⟩
  refine Call_ (ld_blt I hg hm boot_enumerate (PyProof.Rows.callWith_type1 (thn (ha.run pos pins s σ H _ I h) fun us s1 ⟨vs, H1, I1, r1, q1⟩ => ?_) hs rfl))
  obtain ⟨a, xs, ex, hq, q⟩ := q1
  subst ex
  cases r1 with
  | cons r rr =>
    cases rr
    cases r
    obtain ⟨its, rv, p', hz⟩ := I1.tuple hq
    have hal : a < s1.heap.objs.size := by obtain ⟨o, h1, _⟩ := p'; exact Heap.lt_size h1
    refine enum_begins1 (begins_tuple a its.toArray) p' fun h' he hit hsz hk => wpAny_pyIter_enum he ?_
    have I2 : Inv X pins σ H1 { s1 with heap := h' } := I1.kept (t' := s1.toks) hk
    refine ⟨s1.heap.objs.size + 1, [s1.heap.objs.size + 1, s1.heap.objs.size], _, _, H1, rfl, I2, turn_enumT a (s1.heap.objs.size + 1) s1.heap.objs.size xs, ⟨⟨.none, he⟩, ⟨_, hit, rfl, rfl⟩, Nat.succ_ne_self _, Nat.ne_of_lt hal, Nat.ne_of_gt (Nat.lt_succ_of_lt hal), Nat.zero_le _⟩, fun b hb => ?_, q⟩
    have e' : b = s1.heap.objs.size + 1 ∨ b = s1.heap.objs.size := by simpa using hb
    have hle : s1.heap.objs.size ≤ b := by
      rcases e' with z | z
      · rw [z]; exact Nat.le_add_right _ _
      · rw [z]; exact Nat.le_refl _
    exact I1.fpOk hle (I1.hok.fresh hle)
/-! ### == and != by an own __eq__ -/
section
variable {X : Cx} {CX : CXT} {n : Nat} {C f : Addr} {fd : FuncData} {ps : List Str} {sp : Sp} {E : XK}
/-- the own method runs somewhere below -/
theorem run_sub {A : Around} {pins : List (Addr × Obj)} {σ : L2.St} {H : Hp} {s : Shared} {Q : VK} {us : List Value} {vs : List V} (F : FnOk X.prog X.w X.K X.mg X.base CX n f fd ps sp) (hb : Binds X.K fd ps []) (hx : Passes CX X E)
    (sb : Sub X n A) (I : Inv X pins σ H s) (r : Vals vs us) (h : sp vs H Q E) : wpAny (model X.prog X.w) A (call (.ref f) us) (EP X pins σ Q) X.xe s := by
  have e0 : Env0 X.prog X.w X.K X.mg X.base A X.stack s H := by
    have e := I.env0
    exact ⟨by rw [sb.fr]; exact e.frames, e.mod, e.bs, e.bsz, e.funs, e.frf, e.hok, e.bare⟩
  have hl : us.length = ps.length := by rw [← r.length]; exact F.len _ _ _ _ h
  refine wpAny_call (codeAny_mono (F.run A X.stack s H ⟨us, []⟩ us vs Q E sb.room e0 (by
    have := hb s us I.kIn (by simpa using hl)
    simpa using this) r h) fun r s' hq => ?_)
  cases r with
  | error e => exact hx pins σ H s e s' I hq
  | ok fl =>
    cases fl with
    | ret w => exact I.after hq
    | next => exact False.elim hq
    | brk => exact False.elim hq
    | cont => exact False.elim hq
/-- x == y, x an instance of the class at C with an own __eq__ that hands back a truth -/
def rEqO (K : PySem.W.Frag) (C : Addr) (sp : Sp) (E : XK) : R2 := fun x y H Q => ∃ a dx fs t, x = .ref a ∧ H a = some (.ins C dx fs) ∧ TyX K H y t ∧ PySem.W.notFirst K C t = true ∧
  sp [x, y] H (fun v H' => ∃ b, v = .bl b ∧ Q (.bl b) H') E
theorem op_eqO (F : FnOk X.prog X.w X.K X.mg X.base CX n f fd ps sp) (hs : PySem.W.findIn X.K (.ref C) "__eq__" = some (some (.ref f))) (hf : PySem.W.isFn X.K (.ref f) = true) (hb : Binds X.K fd ps []) (hx : Passes CX X E)
    (hr : Room n X.A) : OpR X (compareOp .Eq) (rEqO X.K C sp E) := by
  intro pins s σ H x y v u Q I rx ry hq
  obtain ⟨a, dx, fs, t, rfl, ha, ty, nf, q⟩ := hq
  cases (show v = Value.ref a from rx)
  obtain ⟨mA, J, _⟩ := ins_get I.hok ha
  obtain ⟨od, J, _⟩ := J.look
  obtain ⟨m, hF⟩ := I.fr
  obtain ⟨Pz, Z, pz, _⟩ := kit_of I ry ty
  have hu : X.A.units < cLine := Nat.lt_of_succ_lt (hu_of hr)
  refine PySem.W.cmp_K (op := .Eq) (tb := t) hu hF I.ok.mod.kin J (Z.ty _ _ I.kIn pz) nf hs hf ?_
  refine wpAny_mono (run_sub F hb hx ⟨hr, rfl⟩ I (.cons rx (.cons ry .nil)) q) (fun r s' hz => ?_) fun _ _ z => z
  obtain ⟨z, H', I', rz, b, rfl, qb⟩ := hz
  cases (show r = Value.bool b from rz)
  exact ⟨.bl b, H', I', rfl, qb⟩
/-- x != y: the default __ne__ asks the own __eq__ -/
def rNeO (K : PySem.W.Frag) (C : Addr) (sp : Sp) (E : XK) : R2 := fun x y H Q => ∃ a dx fs t, x = .ref a ∧ H a = some (.ins C dx fs) ∧ TyX K H y t ∧ PySem.W.notFirst K C t = true ∧
  sp [x, y] H (fun v H' => ∃ b, v = .bl b ∧ Q (.bl (!b)) H') E
theorem ifBound_B {M : Model} {A : Around} {E : Value → Shared → Prop} {s : Shared} {K : PySem.W.Frag} {x C : Addr} {ox : Obj} {od : Option Obj} {name : Str} {id : String} {args : List Value} {Q : Option Value → Shared → Prop} (X : K.In s.heap) (I : PySem.W.InstAt s.heap x ox C od)
    (hs : PySem.W.findIn K (.ref C) name = some (some (.builtin id))) (hb : ∀ self, bindSpecial (.builtin id) self = pure (.builtin id, [self]))
    (h : wpAny M A (call (.builtin id) (.ref x :: args)) (fun v => Q (some v)) E s) : wpAny M A (callSpecialIfBound? (.ref x) name args) Q E s := by
  simp only [callSpecialIfBound?, bindSpecialIfBound?]
  refine wpAny_holding (wpAny_bind (wpAny_bind (wpAny_bind (I.type.here ((PySem.W.looks_findIn X hs).here ?_)))))
  refine wpAny_bind (wpAny_askSetting (wpAny_ite ?_))
  have fin : wpAny M A (call (.builtin id) ([.ref x] ++ args) >>= fun v => pure (some v)) Q E s := wpAny_bind (wpAny_mono h (fun v s' h' => wpAny_pure h') fun _ _ h' => h')
  have L := (PySem.W.Looks.of_pure (M := M) (h := s.heap) (hb (.ref x)))
  split
  · exact wpAny_bind (L.here (wpAny_pure (by exact fin)))
  · exact wpAny_tryCatch (wpAny_bind (L.here (wpAny_pure (by exact fin))))
theorem op_neO (F : FnOk X.prog X.w X.K X.mg X.base CX n f fd ps sp) (hs : PySem.W.findIn X.K (.ref C) "__eq__" = some (some (.ref f))) (hf : PySem.W.isFn X.K (.ref f) = true) (hb : Binds X.K fd ps []) (hx : Passes CX X E)
    (hn : PySem.W.findIn X.K (.ref C) "__ne__" = some (some (.builtin "object.__ne__"))) (hm : PySem.W.mroIn X.K C (.type "object") = some true)
    (hr : Room (n + 1) X.A) : OpR X (compareOp .NotEq) (rNeO X.K C sp E) := by
  intro pins s σ H x y v u Q I rx ry hq
  obtain ⟨a, dx, fs, t, rfl, ha, ty, nf, q⟩ := hq
  cases (show v = Value.ref a from rx)
  obtain ⟨mA, J, _⟩ := ins_get I.hok ha
  obtain ⟨od, J, _⟩ := J.look
  obtain ⟨Pz, Z, pz, _⟩ := kit_of I ry ty
  have hu : X.A.units < cLine := Nat.lt_of_succ_lt (hu_of hr)
  have hu1 : X.A.in1.units < cLine := hu_of hr
  have K0 := I.kIn
  have run := run_sub F hb hx (A := X.A.in1) ⟨hr.in1, rfl⟩ I (.cons rx (.cons ry .nil)) q
  have one : wpAny (model X.prog X.w) X.A (tryCompare (.ref a) "__ne__" u) (fun r s' => ∃ v, r = some v ∧ EP X pins σ Q v s') X.xe s := by
    unfold tryCompare
    refine wpAny_bind (ifBound_B K0 J hn PySem.F.cmp_object.ne.bind ?_)
    refine wpAny_call (codeAny_call_builtin PySem.F.cmp_object.ne.plain PySem.F.cmpEntry_ne (PySem.W.check_slot (i := "object.__ne__") (owner := "object") (n := "__ne__") PySem.F.cmpKind_ne PySem.F.cmpSplit_ne (J.type.andThen (PySem.W.looks_mroIn K0 hm)) (PySem.F.cmpArgs_ne _ _) ?_))
    unfold Builtin.«object.__ne__»
    refine wpAny_bind (m := slotArgs "__ne__" 1 _) (wpAny_pure ?_)
    refine wpAny_bind (m := cRoomFor _ _) (wpAny_cRoomFor hu1 ?_)
    refine wpAny_bind (m := callSpecialIfBound? (.ref a) (Str.ofString "__eq__") _) (PySem.W.ifBound_K K0 J hs hf (wpAny_mono run (fun r s' hz => ?_) fun _ _ z => z))
    obtain ⟨z, H', I', rz, b, rfl, qb⟩ := hz
    cases (show r = Value.bool b from rz)
    refine wpAny_bind (wpAny_truthy_bool ?_)
    exact wpAny_pure (wpAny_pure ⟨_, rfl, .bl (!b), H', I', rfl, qb⟩)
  show wpAny (model X.prog X.w) X.A (richCompare .NotEq (.ref a) u) (EP X pins σ Q) X.xe s
  unfold richCompare
  simp only [oneThing_ref]
  refine wpAny_holding (wpAny_bind (wpAny_cRoomFor hu ?_))
  refine wpAny_bind (J.type.here (wpAny_bind ((Z.ty _ _ I.kIn pz).here ?_)))
  split
  · rename_i q2
    have e : PySem.W.subIn X.K t (.ref C) = some false := by
      rcases Bool.or_eq_true_iff.mp nf with e | e
      · rw [beq_iff_eq.mp e] at q2; simp at q2
      · exact beq_iff_eq.mp e
    refine wpAny_bind ((PySem.W.looks_subIn K0 e).here ?_)
    simp only [Bool.false_eq_true, if_false]
    refine wpAny_bind (wpAny_mono one (fun r s' z => ?_) fun _ _ e => e)
    obtain ⟨v, rfl, hq⟩ := z
    exact wpAny_pure hq
  · refine wpAny_bind (wpAny_pure ?_)
    simp only [Bool.false_eq_true, if_false]
    refine wpAny_bind (wpAny_mono one (fun r s' z => ?_) fun _ _ e => e)
    obtain ⟨v, rfl, hq⟩ := z
    exact wpAny_pure hq
/-! ### str(x) by an own __str__ -/
def rStrO (C : Addr) (sp : Sp) (E : XK) : List V → Hp → VK → Prop := fun xs H Q => ∃ a dx fs, xs = [.ref a] ∧ H a = some (.ins C dx fs) ∧ sp [.ref a] H (fun v H' => ∃ z, v = .str z ∧ Q (.str z) H') E
theorem call_strO (F : FnOk X.prog X.w X.K X.mg X.base CX n f fd ps sp) (hs : PySem.W.findIn X.K (.ref C) "__str__" = some (some (.ref f))) (hf : PySem.W.isFn X.K (.ref f) = true) (hb : Binds X.K fd ps []) (hx : Passes CX X E)
    (hr : Room (n + 2) X.A) : CallR X (.type "str") (rStrO C sp E) := by
  intro pins s σ H xs us Q I r hq
  obtain ⟨a, dx, fs, rfl, ha, q⟩ := hq
  obtain ⟨u, rfl, rx⟩ : ∃ u, us = [u] ∧ RelV (.ref a) u := by
    cases r with
    | cons r rr => cases rr; exact ⟨_, rfl, r⟩
  cases (show u = Value.ref a from rx)
  obtain ⟨mA, J, _⟩ := ins_get I.hok ha
  obtain ⟨od, J, _⟩ := J.look
  have hr2 : Room n X.A.in1.in1 := hr.in1.in1
  have hu : X.A.in1.in1.units < cLine := Nat.lt_of_succ_lt (hu_of hr2)
  refine PySem.W.kso_call hu I.kIn J hs hf ?_
  refine wpAny_mono (run_sub F hb hx (A := X.A.in1.in1) ⟨hr2, rfl⟩ I (.cons rx .nil) q) (fun r s' hz => ?_) fun _ _ z => z
  obtain ⟨z, H', I', rz, x, rfl, qb⟩ := hz
  obtain ⟨t, e⟩ := (show ∃ t, r = Value.str x t from rz)
  cases e
  exact ⟨.str x, H', I', ⟨t, rfl⟩, qb⟩
/-! ### // by a number of either sign -/
def CDivNW (_ j : Int) : Prop := j ≠ 0 ∧ j.natAbs.log2 < 9000
theorem op_fdivNW : OpR X (binaryOp .FloorDiv) (rI CDivNW fun i j => .int (i.fdiv j)) := opI fun _ _ _ _ _ _ _ hc q => floordiv_int hc.1 q (.inl (PyProof.noPylong_of_log2 hc.2))
end
end TCA
namespace TC
open PySem PySem.Spec PyProof.Rows L2
/-! the text by places -/
def top (i : Nat) : Stmt := PySem.Challenge.pw_turncouple_k01_numbers_made.main.body.getD i (.Pass ⟨0, 0, 0, 0⟩)
abbrev sWhole : Stmt := top 8
abbrev sShared : Stmt := top 9
abbrev sLowest : Stmt := top 10
abbrev sSquares : Stmt := top 11
abbrev sFigures : Stmt := top 12
abbrev sInit : Stmt := inClass (top 15) 0
abbrev sEq : Stmt := inClass (top 15) 1
abbrev sStr : Stmt := inClass (top 15) 2
abbrev sExact : Stmt := top 16
abbrev sLowered : Stmt := top 17
abbrev sTextOf : Stmt := top 18
abbrev sTextPart : Stmt := top 19
abbrev sPen : Stmt := top 21
abbrev sDraw : Stmt := top 22
abbrev sLow : Stmt := top 23
abbrev sFree : Stmt := top 24
abbrev sDue : Stmt := top 25
abbrev sLaw : Stmt := top 26
abbrev FnP (K : PySem.W.Frag) (x : Str) (st : Stmt) (f : Addr) (fd : FuncData) : Prop := FunD K x x (defArgs st) (defBody st) (defScope st) [] [] f fd
/-- the primes below 1000 -/
def primes : List Int := [2, 3, 5, 7, 11, 13, 17, 19, 23, 29, 31, 37, 41, 43, 47, 53, 59, 61, 67, 71, 73, 79, 83, 89, 97, 101, 103, 107, 109, 113, 127, 131, 137, 139, 149, 151, 157, 163, 167, 173, 179, 181, 191, 193, 197, 199, 211, 223, 227, 229, 233, 239, 241, 251, 257, 263, 269, 271, 277, 281, 283, 293, 307, 311, 313, 317, 331, 337, 347, 349, 353, 359, 367, 373, 379, 383, 389, 397, 401, 409, 419, 421, 431, 433, 439, 443, 449, 457, 461, 463, 467, 479, 487, 491, 499, 503, 509, 521, 523, 541, 547, 557, 563, 569, 571, 577, 587, 593, 599, 601, 607, 613, 617, 619, 631, 641, 643, 647, 653, 659, 661, 673, 677, 683, 691, 701, 709, 719, 727, 733, 739, 743, 751, 757, 761, 769, 773, 787, 797, 809, 811, 821, 823, 827, 829, 839, 853, 857, 859, 863, 877, 881, 883, 887, 907, 911, 919, 929, 937, 941, 947, 953, 967, 971, 977, 983, 991, 997]
/-! the head: facts by names -/
def dd (x : Str) (st : Stmt) : He.DefD := ⟨(x, none), x, x, defArgs st, defBody st, defScope st, [], []⟩
def dm (m q : Str) (st : Stmt) : He.DefD := ⟨("Exact", some m), m, q, defArgs st, defBody st, defScope st, [], []⟩
def dExact : He.DefD := ⟨("exact", none), "exact", "exact", defArgs sExact, defBody sExact, defScope sExact, [], [("bottom", .int 1), ("root", .int 1)]⟩
def fn : List He.DefD := [dd "is_whole" sWhole, dd "shared" sShared, dd "in_lowest" sLowest, dd "squares_out" sSquares, dd "figures" sFigures,
  dm "__init__" "Exact.__init__" sInit, dm "__eq__" "Exact.__eq__" sEq, dm "__str__" "Exact.__str__" sStr, dExact, dd "lowered" sLowered, dd "text_of" sTextOf, dd "text_of_part" sTextPart,
  dd "_law_pen" sPen, dd "_law_draw" sDraw, dd "_law_low" sLow, dd "_law_free" sFree, dd "_law_parts_due" sDue, dd "law" sLaw]
def fa : List He.Fa := [.glo "is_whole", .glo "shared", .glo "in_lowest", .glo "squares_out", .glo "figures", .glo "Exact", .glo "exact", .glo "lowered", .glo "text_of", .glo "text_of_part",
  .glo "_law_pen", .glo "_law_draw", .glo "_law_low", .glo "_law_free", .glo "_law_parts_due", .glo "law", .glo "PRIMES",
  .int "BLOCK" (10 ^ 64), .int "HIGHEST_ROOT" 1000000, .cls "Exact", .noat "Exact" "parts", .mkr "Exact", .meth "Exact" "__eq__", .meth "Exact" "__str__",
  .free "isinstance", .free "int", .free "bool", .free "abs", .free "sorted", .free "list", .free "tuple", .free "len", .free "enumerate", .free "str", .free "range"]
def others : List String := ["int", "NoneType", "str", "tuple", "list", "bool"]
/-- more facts: the tuple of primes, what == and isinstance ask of Exact -/
def exB (K : PySem.W.Frag) : Bool :=
  He.tupB K "PRIMES" (primes.map He.Dv.int) &&
  (He.eqO (PySem.W.findIn K (.ref (He.ga K "Exact")) "__ne__") (some (some (.builtin "object.__ne__"))) &&
  (He.eqO (PySem.W.findIn K (.ref (He.ga K "Exact")) "__class__") (some (some (.builtin "object.__class__"))) &&
  (He.eqO (PySem.W.specialIn K (.builtin "object.__class__") "__get__") (some (some (.builtin "getset_descriptor.__get__"))) &&
  (decide (PySem.W.takesIn K (.builtin "object.__class__") = some true) &&
  (decide (PySem.W.mroIn K (He.ga K "Exact") (.type "object") = some true) &&
  (others.all fun t => decide (PySem.W.subIn K (.type t) (.ref (He.ga K "Exact")) = some false) && decide (PySem.W.kitOne K (.type t) (.ref (He.ga K "Exact")) = some false)))))))
abbrev AlY : Type := He.AlD × Bool
def obsY (g : Addr → Option Obj) : AlY := (He.obsD fa fn (He.frG g (He.asD g 5)), exB (He.frG g (He.asD g 5)))
def valY : AlY := (He.valD fn, true)
def hk : PySem.W.Hook where
  α := AlY
  obs := fun s => obsY s.heap.get?
  val := fun _ => valY
  says := fun _ h => ∃ K : PySem.W.Frag, K.In h ∧ He.SaysD fa fn K ∧ exB K = true
  of := fun _ _ e => ⟨_, He.frG_in, congrArg (fun z : AlY => z.1) e, congrArg (fun z : AlY => z.2) e⟩
  keeps := fun _ _ _ ⟨K, hK, c⟩ k => ⟨K, PySem.W.Frag.In.keeps hK k, c⟩
abbrev R : PySem.W.OpenRow := PySem.W.OpenLaw.row PySem.Challenge.rw_turncouple_k01_numbers_made
def ob (s : PySem.W.SharedT) : AlY := obsY (HandSHeadRun.getT s)
theorem ob_eq (s : PySem.W.SharedT) : ob s = hk.obs s.abs := by
  have e : HandSHeadRun.getT s = s.abs.heap.get? := funext (HandSHeadRun.getT_eq s)
  show obsY _ = obsY _
  rw [e]
def loose : List PySem.Str := ["TurnError", "NoNumber", "ByNought", "PRIMES", "BLOCK_FIGURES", "BLOCK", "is_whole", "shared", "in_lowest", "squares_out", "figures", "HIGHEST_ROOT", "Exact", "exact", "lowered", "text_of", "text_of_part",
  "_law_pen", "_law_draw", "_law_low", "_law_free", "_law_parts_due"]
end TC
namespace TC
open PySem PySem.Spec PyProof.Rows L2
theorem run (w : World) : HandSHeadRun.RunEq R (PySem.W.view R.prog [26]) hk ob 2000 loose w := by
  intro os
  kernel_rfl
end TC
namespace TC
open PySem PySem.Spec PyProof.Rows L2 TCA
theorem iteNT {c A B : Prop} [Decidable c] (hc : ¬ c) (h : A) : if (!decide c) = true then A else B := by
  rw [decide_eq_false hc]
  exact iteT h
theorem iteD1 {c A B : Prop} [Decidable c] (hc : c) (h : A) : if decide c = true then A else B := by
  rw [decide_eq_true hc]
  exact iteT h
theorem iteD0 {c A B : Prop} [Decidable c] (hc : ¬ c) (h : B) : if decide c = true then A else B := by
  rw [decide_eq_false hc]
  exact iteF h
theorem ine {a b : Int} (h : a ≠ b) : ¬ (V.int a = V.int b) := fun e => h (V.int.inj e)
theorem same_upd {H : Hp} {p : Addr} {o : HO} (h : H p = none) : Same H (upd H p o) := fun b x e => by
  rw [upd_ne (ne_of_none e h)]
  exact e
section
variable {P : Program} {w : World} {K : PySem.W.Frag} {mg : Str → Option Value} {base : Heap} {f : Addr} {fd : FuncData}
/-! ### is_whole -/
def spWhole : Sp := fun vs H Q _ => ∃ n : Int, vs = [.int n] ∧ Q (.bl true) H
theorem scWhole : FnScope ["thing"] ["thing"] (defScope sWhole) := ⟨rfl, rfl, rfl, by decide +kernel, rfl, by decide +kernel, by decide +kernel⟩
theorem ok_whole (F : FnP K "is_whole" sWhole f fd) (gI : mg "isinstance" = none) (gi : mg "int" = none) (gb : mg "bool" = none) : FnOk P w K mg base CX0 1 f fd ["thing"] spWhole := by
  refine F.ok scWhole (fun vs H Q E h => ?_) (fun cdv A outer s H vs Q E hr h => ?_)
  · obtain ⟨n, rfl, _⟩ := h
    rfl
  · obtain ⟨n, rfl, q⟩ := h
    refine ⟨_, PSs.nox (pss_one (ps_ret (pe_and (pe_callB call_isi (by rfl) gI (by decide +kernel) (pa_cons (pv 0) (pa_cons (pe_bltn (v := .ty "int") (by rfl) gi (by decide +kernel) rfl) pa_nil)))
      (pe_one (pe_not (pe_callB call_isi (by rfl) gI (by decide +kernel) (pa_cons (pv 0) (pa_cons (pe_bltn (v := .ty "bool") (by rfl) gb (by decide +kernel) rfl) pa_nil)))))))), ?_⟩
    refine ⟨_, rfl, _, _, _, _, true, rfl, .ty "int", .base (.int n), kit_ty (by decide +kernel), true, rfl, iteT ?_⟩
    refine ⟨_, rfl, _, _, _, _, false, rfl, .ty "bool", .base (.int n), kit_ty (by decide +kernel), false, rfl, q⟩
/-! ### shared -/
def spShared : Sp := fun vs H Q _ => ∃ a b : Int, vs = [.int a, .int b] ∧ Q (.int ((Int.gcd a b : Nat) : Int)) H
theorem scShared : FnScope ["one", "other"] ["one", "other"] (defScope sShared) := ⟨rfl, rfl, rfl, by decide +kernel, rfl, by decide +kernel, by decide +kernel⟩
theorem ok_shared (F : FnP K "shared" sShared f fd) (gA : mg "abs" = none) : FnOk P w K mg base CX0 1 f fd ["one", "other"] spShared := by
  refine F.ok scShared (fun vs H Q E h => ?_) (fun cdv A outer s H vs Q E hr h => ?_)
  · obtain ⟨a, b, rfl, _⟩ := h
    rfl
  · obtain ⟨a, b, rfl, q⟩ := h
    refine ⟨_, PSs.nox (pss_cons (ps_while PassesOwn.never (pt_cmpR op_ne (pv 1) pe_int (nomark _))
        (pss_one (ps_par (i := 0) (j := 1) rfl scShared.nd rfl rfl (by decide) rfl rfl (pa_cons (pv 1) (pa_cons (pe_op op_modN (pv 0) (pv 1)) pa_nil)) (by rfl))))
      (pss_one (ps_ret (pe_callB call_abs (by rfl) gA (by decide +kernel) (pa_cons (pv 0) pa_nil))))), ?_⟩
    refine ⟨fun m σ H' => ∃ x y : Int, σ = [some (.int x), some (.int y)] ∧ H' = H ∧ Int.gcd x y = Int.gcd a b ∧ y.natAbs = m, ⟨_, a, b, rfl, rfl, rfl, rfl⟩, fun m σ H' hW => ?_⟩
    obtain ⟨x, y, rfl, rfl, eg, em⟩ := hW
    refine ⟨_, rfl, rfl, _, rfl, ?_⟩
    by_cases hy : y = 0
    · subst hy
      refine iteNS rfl ?_
      refine ⟨_, rfl, x, rfl, ?_⟩
      rw [TCM.abs_eq, ← show Int.gcd x 0 = x.natAbs from Int.gcd_zero_right x, eg]
      exact q
    · refine iteNT (ine hy) ?_
      refine ⟨fun σ' H'' => ∃ x' y' : Int, σ' = [some (.int x'), some (.int y')] ∧ H'' = H' ∧ Int.gcd x' y' = Int.gcd a b ∧ y'.natAbs < m, fun σ' H'' hN => ?_, ?_⟩
      · obtain ⟨x', y', e1, e2, e3, e4⟩ := hN
        exact ⟨_, e4, x', y', e1, e2, e3, rfl⟩
      · refine ⟨_, rfl, _, rfl, _, rfl, x, y, rfl, rfl, hy, _, _, rfl, y, x.fmod y, rfl, rfl, ?_, ?_⟩
        · rw [TCM.gcd_fmod, eg]
        · rw [← em]
          exact TCM.fmod_lt x y hy
/-! ### in_lowest -/
def spLowest : Sp := fun vs H Q _ => ∃ t b : Int, vs = [.int t, .int b] ∧ b ≠ 0 ∧ b.natAbs < 2 ^ 1000 ∧ ∀ p, H p = none → Q (.ref p) (upd H p (.tup [.int (TCM.low t b).1, .int (TCM.low t b).2]))
theorem scLowest : FnScope ["top", "bottom", "common"] ["top", "bottom"] (defScope sLowest) := ⟨rfl, rfl, rfl, by decide +kernel, rfl, by decide +kernel, by decide +kernel⟩
theorem log_lt {d : Int} {n : Nat} (h : n ≤ 9000) (hn : 0 < n) (hd : d.natAbs < 2 ^ n) : d.natAbs.log2 < 9000 := Nat.lt_of_lt_of_le (PySem.Flt.log2_lt_of hn hd) h
theorem ok_lowest {fS : Addr} {fdS : FuncData} (F : FnP K "in_lowest" sLowest f fd) (GS : FnOk P w K mg base CX0 1 fS fdS ["one", "other"] spShared) (bS : L2.Binds K fdS ["one", "other"] []) (kS : PySem.W.keepIn K (.ref fS) = true) (gS : mg "shared" = some (.ref fS)) :
    FnOk P w K mg base CX0 2 f fd ["top", "bottom"] spLowest := by
  refine F.ok scLowest (fun vs H Q E h => ?_) (fun cdv A outer s H vs Q E hr h => ?_)
  · obtain ⟨a, b, rfl, _⟩ := h
    rfl
  · obtain ⟨t, b, rfl, hb, hz, q⟩ := h
    refine ⟨_, PSs.nox (pss_cons (ps_set (i := 2) scLowest.nd rfl (.inl rfl) (pe_call GS hr (by rfl) gS kS bS .nil pass0 (pa_cons (pv 0) (pa_cons (pv 1) pa_nil))))
      (pss_cons (ps_if (pt_cmpR op_lt (pv 1) pe_int (nomark _)) (pss_one (ps_set (i := 2) scLowest.nd rfl (.inl rfl) (pe_un un_neg (pv 2)))) pss_nil)
      (pss_one (ps_ret (pe_tup (pa_cons (pe_op op_fdivNW (pv 0) (pv 2)) (pa_cons (pe_op op_fdivNW (pv 1) (pv 2)) pa_nil))))))), ?_⟩
    refine ⟨_, rfl, _, rfl, t, b, rfl, ?_⟩
    have fin : ∀ σ : L2.St, σ = [some (.int t), some (.int b), some (.int (TCM.sgn t b))] → tRet (tTup (tCons (tOp (rI CDivNW fun i j => .int (i.fdiv j)) (tVar 0) (tVar 2)) (tCons (tOp (rI CDivNW fun i j => .int (i.fdiv j)) (tVar 1) (tVar 2)) tNil))) { nx := fun _ H' => Q .non H', rt := Q } σ H := by
      rintro σ rfl
      have hs : CDivNW t (TCM.sgn t b) := ⟨TCM.sgn_ne t b hb, log_lt (by decide) (by decide) (Nat.lt_of_le_of_lt (by rw [TCM.sgn_abs]; exact TCM.gcd_le t b hb) hz)⟩
      exact ⟨_, rfl, _, rfl, t, _, rfl, rfl, hs, _, rfl, _, rfl, b, _, rfl, rfl, hs, by show 2 ≤ sizeLine; decide, fun p hp => q p hp⟩
    refine ⟨_, rfl, b, 0, rfl, rfl, _, rfl, ?_⟩
    by_cases hb0 : b < 0
    · refine iteD1 hb0 ?_
      refine ⟨_, rfl, _, rfl, ?_⟩
      refine fin _ ?_
      show [some (V.int t), some (V.int b), some (V.int (-((Int.gcd t b : Nat) : Int)))] = _
      rw [show TCM.sgn t b = -((Int.gcd t b : Nat) : Int) from if_pos hb0]
    · refine iteD0 hb0 ?_
      refine fin _ ?_
      show [some (V.int t), some (V.int b), some (V.int ((Int.gcd t b : Nat) : Int))] = _
      rw [show TCM.sgn t b = ((Int.gcd t b : Nat) : Int) from if_neg hb0]
end
end TC
namespace TC
open PySem PySem.Spec PyProof.Rows L2 TCA
theorem primes_ok : ∀ p ∈ TCM.primes, 2 ≤ p ∧ p ≤ 997 := by decide
theorem pp_le {p : Int} {m : Int} (h : 2 ≤ p) (h2 : p ≤ m) : 4 ≤ p * p ∧ p * p ≤ m * m := ⟨TCM.pp4 h, Int.mul_le_mul h2 h2 (by omega) (by omega)⟩
/-- the inner loop's word: k more turns -/
def WInn (p n0 o0 n o : Int) (k : Nat) : Prop := 0 < n ∧ n ≤ 1000000 ∧ n < 4 ^ k ∧ TCM.whl k p n o = TCM.whl 10 p n0 o0
theorem WInn.start {p n o : Int} (h : 0 < n) (h2 : n ≤ 1000000) : WInn p n o n o 10 := ⟨h, h2, Int.lt_of_le_of_lt h2 (by decide), rfl⟩
theorem WInn.turn {p n0 o0 n o : Int} {k : Nat} (w : WInn p n0 o0 n o k) (hp : 2 ≤ p) (h : n % (p * p) = 0) : ∃ j, WInn p n0 o0 (n / (p * p)) (o * p) j ∧ (n / (p * p)).toNat < n.toNat := by
  obtain ⟨h0, h1, h2, h3⟩ := w
  obtain ⟨a, b, c⟩ := TCM.sq_div h0 (TCM.pp4 hp) h
  cases k with
  | zero =>
    have : n < 1 := h2
    omega
  | succ k =>
    refine ⟨k, ⟨a, by omega, ?_, ?_⟩, by omega⟩
    · have e : (4 : Int) ^ (k + 1) = 4 ^ k * 4 := Int.pow_succ ..
      omega
    · rw [← h3]
      show _ = (if n % (p * p) = 0 then TCM.whl k p (n / (p * p)) (o * p) else (n, o))
      rw [if_pos h]
theorem WInn.stop {p n0 o0 n o : Int} {k : Nat} (w : WInn p n0 o0 n o k) (h : ¬ n % (p * p) = 0) : TCM.whl 10 p n0 o0 = (n, o) := by
  obtain ⟨h0, h1, h2, h3⟩ := w
  rw [← h3]
  cases k with
  | zero => rfl
  | succ k =>
    show (if n % (p * p) = 0 then TCM.whl k p (n / (p * p)) (o * p) else (n, o)) = _
    rw [if_neg h]
theorem cmul_r {i j : Int} (h1 : -1000000 ≤ j) (h2 : j ≤ 1000000) : CMul i j := .inr ⟨by omega, by omega⟩
section
variable {P : Program} {w : World} {K : PySem.W.Frag} {mg : Str → Option Value} {base : Heap} {f : Addr} {fd : FuncData}
/-! ### squares_out -/
def spSquares : Sp := fun vs H Q _ => ∃ n : Int, vs = [.int n] ∧ 0 ≤ n ∧ n ≤ 1000000 ∧ ∀ p H', Same H H' → H p = none → H' p = some (.tup [.int (TCM.sqOut n).1, .int (TCM.sqOut n).2.1, .int (TCM.sqOut n).2.2]) → Q (.ref p) H'
theorem scSquares : FnScope ["number", "outside", "inside", "prime"] ["number"] (defScope sSquares) := ⟨rfl, rfl, rfl, by decide +kernel, rfl, by decide +kernel, by decide +kernel⟩
theorem ok_squares {aP : Addr} (F : FnP K "squares_out" sSquares f fd) (gP : mg "PRIMES" = some (.ref aP)) (hT : ∀ H, SqT K H aP (TCM.primes.map V.int)) : FnOk P w K mg base CX0 1 f fd ["number"] spSquares := by
  refine F.ok scSquares (fun vs H Q E h => ?_) (fun cdv A outer s H vs Q E hr h => ?_)
  · obtain ⟨a, rfl, _⟩ := h
    rfl
  · obtain ⟨n, rfl, h0, h1, q⟩ := h
    refine ⟨_, PSs.nox (pss_cons (ps_if (pt_cmpR op_eq (pv 0) pe_int (nomark _)) (pss_one (ps_ret (pe_tup (pa_cons pe_int (pa_cons pe_int (pa_cons pe_int pa_nil)))))) pss_nil)
      (pss_cons (ps_asg (pe_tup (pa_cons pe_int (pa_cons pe_int pa_nil))) (pg_tup rfl (pgs_cons (pg_name (i := 1) scSquares.nd rfl (.inl rfl)) (pgs_cons (pg_name (i := 2) scSquares.nd rfl (.inl rfl)) pgs_nil))))
      (pss_cons (ps_for PassesOwn.never rfl (pi_tup (pe_glob (v := .ref aP) (by rfl) gP rfl)) (pg_name (i := 3) scSquares.nd rfl (.inl rfl))
        (pss_cons (ps_if (pt_cmpR op_eq (pv 0) pe_int (nomark _)) (pss_one ps_break) pss_nil)
        (pss_cons (ps_while PassesOwn.never (pt_cmpR op_eq (pe_op op_mod (pv 0) (pe_op op_mul (pv 3) (pv 3))) pe_int (nomark _))
          (pss_cons (ps_aug (i := 0) scSquares.nd rfl (.inl rfl) (pe_op op_mul (pv 3) (pv 3)) iop_fdiv) (pss_one (ps_aug (i := 1) scSquares.nd rfl (.inl rfl) (pv 3) iop_mul))))
        (pss_one (ps_if (pt_cmpR op_eq (pe_op op_mod (pv 0) (pv 3)) pe_int (nomark _))
          (pss_cons (ps_aug (i := 0) scSquares.nd rfl (.inl rfl) (pv 3) iop_fdiv) (pss_one (ps_aug (i := 2) scSquares.nd rfl (.inl rfl) (pv 3) iop_mul))) pss_nil)))))
      (pss_one (ps_ret (pe_tup (pa_cons (pv 1) (pa_cons (pv 2) (pa_cons (pv 0) pa_nil))))))))), ?_⟩
    refine ⟨_, rfl, rfl, _, rfl, ?_⟩
    by_cases hn : n = 0
    · subst hn
      refine iteD1 rfl ?_
      exact ⟨by show 3 ≤ sizeLine; decide, fun p hp => q p _ (same_upd hp) hp upd_same⟩
    · refine iteD0 (ine hn) ?_
      have eq0 : TCM.sqOut n = TCM.sqL TCM.primes n 1 1 := if_neg hn
      refine ⟨by show 2 ≤ sizeLine; decide, fun c hc => ?_⟩
      refine ⟨c, _, rfl, SqT.of upd_same, rfl, _, _, rfl, _, _, rfl, rfl, ?_⟩
      have sm1 : Same H (upd H c (.tup [.int 1, .int 1])) := same_upd hc
      replace q : ∀ p, (upd H c (.tup [.int 1, .int 1])) p = none → Q (.ref p) (upd (upd H c (.tup [.int 1, .int 1])) p (.tup [.int (TCM.sqOut n).1, .int (TCM.sqOut n).2.1, .int (TCM.sqOut n).2.2])) := fun p hp => q p _ (sm1.trans (same_upd hp)) (sm1.free hp) upd_same
      generalize upd H c (.tup [.int 1, .int 1]) = H at q ⊢
      refine ⟨aP, rfl, ⟨_, hT H⟩, for_tup (xs := TCM.primes.map V.int) (fun j σ H' => ∃ (n' o i : Int) (pr : Option V), σ = [some (.int n'), some (.int o), some (.int i), pr] ∧ H' = H ∧ 0 < n' ∧ n' ≤ 1000000 ∧ TCM.sqL (TCM.primes.drop j) n' o i = TCM.sqOut n)
        ⟨n, 1, 1, none, rfl, rfl, by omega, h1, eq0.symm⟩ (fun j σ H' _ hP => ?_) (fun j x σ H' hx hP => ?_) (fun σ H' hP => ?_)⟩
      · obtain ⟨_, _, _, _, _, rfl, _⟩ := hP
        exact hT _
      · obtain ⟨n', o, i, pr, rfl, rfl, g0, g1, ge⟩ := hP
        rw [List.getElem?_map] at hx
        obtain ⟨p, hp, rfl⟩ : ∃ p, TCM.primes[j]? = some p ∧ V.int p = x := by
          cases e : TCM.primes[j]? with
          | none =>
            rw [e] at hx
            cases hx
          | some p =>
            rw [e] at hx
            exact ⟨p, rfl, Option.some.inj hx⟩
        obtain ⟨p2, p9⟩ := primes_ok p (List.mem_of_getElem? hp)
        have hdrop : TCM.primes.drop j = p :: TCM.primes.drop (j + 1) := by
          obtain ⟨hl, e⟩ := List.getElem?_eq_some_iff.mp hp
          rw [List.drop_eq_getElem_cons hl, e]
        rw [hdrop] at ge
        obtain ⟨pp1, pp2⟩ := pp_le p2 p9
        have cd : CDiv n' (p * p) := ⟨by omega, by omega⟩
        refine ⟨_, rfl, rfl, _, rfl, ?_⟩
        by_cases hn1 : n' = 1
        · subst hn1
          refine iteD1 rfl ?_
          have e2 : (o, i, (1 : Int)) = TCM.sqOut n := by
            rw [← ge]
            show _ = (if (1 : Int) = 1 then (o, i, (1 : Int)) else _)
            rw [if_pos rfl]
          rw [← e2] at q
          exact ⟨_, rfl, _, rfl, _, rfl, by show 3 ≤ sizeLine; decide, fun p hp => q p hp⟩
        · refine iteD0 (ine hn1) ?_
          refine ⟨fun m σ H'' => ∃ (n2 o2 : Int) (k : Nat), σ = [some (.int n2), some (.int o2), some (.int i), some (.int p)] ∧ H'' = H' ∧ WInn p n' o n2 o2 k ∧ n2.toNat = m,
            ⟨_, n', o, 10, rfl, rfl, WInn.start g0 g1, rfl⟩, fun m σ H'' hW => ?_⟩
          obtain ⟨n2, o2, k, rfl, rfl, hw, hm⟩ := hW
          refine ⟨_, rfl, _, rfl, _, rfl, p, p, rfl, rfl, cmul_r (by omega) (by omega), n2, p * p, rfl, rfl, by show 0 < p * p; omega, rfl, _, rfl, ?_⟩
          by_cases hz : n2 % (p * p) = 0
          · refine iteD1 (congrArg V.int hz) ?_
            obtain ⟨k2, hw2, hlt⟩ := hw.turn p2 hz
            refine ⟨fun σ' H3 => σ' = [some (.int (n2 / (p * p))), some (.int (o2 * p)), some (.int i), some (.int p)] ∧ H3 = H'', fun σ' H3 hN => ?_, ?_⟩
            · obtain ⟨rfl, rfl⟩ := hN
              exact ⟨_, hm ▸ hlt, _, _, k2, rfl, rfl, hw2, rfl⟩
            · exact ⟨_, rfl, _, rfl, _, rfl, p, p, rfl, rfl, cmul_r (by omega) (by omega), n2, p * p, rfl, rfl, ⟨by omega, by omega⟩, _, rfl, _, rfl, o2, p, rfl, rfl, cmul_r (by omega) (by omega), rfl, rfl⟩
          · refine iteD0 (ine hz) ?_
            have ew := hw.stop hz
            obtain ⟨w0, w1, _, _⟩ := hw
            have ge2 : (if n2 % p = 0 then TCM.sqL (TCM.primes.drop (j + 1)) (n2 / p) o2 (i * p) else TCM.sqL (TCM.primes.drop (j + 1)) n2 o2 i) = TCM.sqOut n := by
              rw [← ge]
              show _ = (if n' = 1 then (o, i, n') else if (TCM.whl 10 p n' o).1 % p = 0 then TCM.sqL (TCM.primes.drop (j + 1)) ((TCM.whl 10 p n' o).1 / p) (TCM.whl 10 p n' o).2 (i * p) else TCM.sqL (TCM.primes.drop (j + 1)) (TCM.whl 10 p n' o).1 (TCM.whl 10 p n' o).2 i)
              rw [if_neg hn1, ew]
            refine ⟨_, rfl, _, rfl, n2, p, rfl, rfl, by show 0 < p; omega, rfl, _, rfl, ?_⟩
            by_cases hz2 : n2 % p = 0
            · refine iteD1 (congrArg V.int hz2) ?_
              rw [if_pos hz2] at ge2
              have e3 := Int.mul_ediv_add_emod n2 p
              have l1 : 0 < n2 / p := by
                rcases Int.lt_or_le 0 (n2 / p) with z | z
                · exact z
                · have := Int.mul_le_mul_of_nonneg_left z (show 0 ≤ p by omega)
                  rw [Int.mul_zero] at this
                  omega
              have l2 : n2 / p ≤ 1000000 := Int.le_trans (Int.ediv_le_self _ (by omega)) w1
              exact ⟨_, rfl, _, rfl, n2, p, rfl, rfl, ⟨by omega, by omega⟩, _, rfl, _, rfl, i, p, rfl, rfl, cmul_r (by omega) (by omega), n2 / p, o2, i * p, some (.int p), rfl, rfl, l1, l2, ge2⟩
            · refine iteD0 (ine hz2) ?_
              rw [if_neg hz2] at ge2
              exact ⟨n2, o2, i, some (.int p), rfl, rfl, w0, w1, ge2⟩
      · obtain ⟨n', o, i, pr, rfl, rfl, g0, g1, ge⟩ := hP
        rw [List.length_map, List.drop_length] at ge
        have e2 : (o, i, n') = TCM.sqOut n := ge
        rw [← e2] at q
        exact ⟨_, rfl, _, rfl, _, rfl, by show 3 ≤ sizeLine; decide, fun p hp => q p hp⟩
/-! ### _law_low -/
def spLowL : Sp := fun vs H Q _ => ∃ t b : Int, vs = [.int t, .int b] ∧ b ≠ 0 ∧ b.natAbs < 2 ^ 1000 ∧ ∀ p, H p = none → Q (.ref p) (upd H p (.tup [.int (TCM.lowL t b).1, .int (TCM.lowL t b).2]))
theorem scLowL : FnScope ["_law_up", "_law_under", "_law_one", "_law_other"] ["_law_up", "_law_under"] (defScope sLow) := ⟨rfl, rfl, rfl, by decide +kernel, rfl, by decide +kernel, by decide +kernel⟩
theorem ok_lowL (F : FnP K "_law_low" sLow f fd) (gA : mg "abs" = none) : FnOk P w K mg base CX0 1 f fd ["_law_up", "_law_under"] spLowL := by
  refine F.ok scLowL (fun vs H Q E h => ?_) (fun cdv A outer s H vs Q E hr h => ?_)
  · obtain ⟨a, b, rfl, _⟩ := h
    rfl
  · obtain ⟨t, b, rfl, hb, hz, q⟩ := h
    refine ⟨_, PSs.nox (pss_cons (ps_par (i := 2) (j := 3) rfl scLowL.nd rfl rfl (by decide) rfl rfl (pa_cons (pe_callB call_abs (by rfl) gA (by decide +kernel) (pa_cons (pv 0) pa_nil)) (pa_cons (pe_callB call_abs (by rfl) gA (by decide +kernel) (pa_cons (pv 1) pa_nil)) pa_nil)) (by rfl))
      (pss_cons (ps_while PassesOwn.never (pt_cmpR op_gt (pv 3) pe_int (nomark _))
        (pss_one (ps_par (i := 2) (j := 3) rfl scLowL.nd rfl rfl (by decide) rfl rfl (pa_cons (pv 3) (pa_cons (pe_op op_modN (pv 2) (pv 3)) pa_nil)) (by rfl))))
      (pss_one (ps_ret (pe_ifExp (pt_cmpR op_gt (pv 1) pe_int (nomark _))
        (pe_tup (pa_cons (pe_op op_fdivNW (pv 0) (pv 2)) (pa_cons (pe_op op_fdivNW (pv 1) (pv 2)) pa_nil)))
        (pe_tup (pa_cons (pe_op op_fdivNW (pe_un un_neg (pv 0)) (pv 2)) (pa_cons (pe_op op_fdivNW (pe_un un_neg (pv 1)) (pv 2)) pa_nil)))))))), ?_⟩
    refine ⟨_, rfl, t, rfl, _, rfl, b, rfl, _, _, rfl, ?_⟩
    refine ⟨fun m σ H' => ∃ x y : Int, σ = [some (.int t), some (.int b), some (.int x), some (.int y)] ∧ H' = H ∧ 0 ≤ x ∧ 0 ≤ y ∧ Int.gcd x y = Int.gcd t b ∧ y.natAbs = m,
      ⟨_, ((t.natAbs : Nat) : Int), ((b.natAbs : Nat) : Int), ?_, rfl, by omega, by omega, rfl, rfl⟩, fun m σ H' hW => ?_⟩
    · show [some (V.int t), some (V.int b), some (V.int (if t < 0 then -t else t)), some (V.int (if b < 0 then -b else b))] = _
      rw [TCM.abs_eq, TCM.abs_eq]
    · obtain ⟨x, y, rfl, rfl, x0, y0, eg, em⟩ := hW
      refine ⟨_, rfl, y, 0, rfl, rfl, _, rfl, ?_⟩
      by_cases hy : y > 0
      · refine iteD1 hy ?_
        refine ⟨fun σ' H'' => ∃ x' y' : Int, σ' = [some (.int t), some (.int b), some (.int x'), some (.int y')] ∧ H'' = H' ∧ 0 ≤ x' ∧ 0 ≤ y' ∧ Int.gcd x' y' = Int.gcd t b ∧ y'.natAbs < m, fun σ' H'' hN => ?_, ?_⟩
        · obtain ⟨x', y', e1, e2, e3, e4, e5, e6⟩ := hN
          exact ⟨_, e6, x', y', e1, e2, e3, e4, e5, rfl⟩
        · refine ⟨_, rfl, _, rfl, _, rfl, x, y, rfl, rfl, by show y ≠ 0; omega, _, _, rfl, y, x.fmod y, rfl, rfl, y0, Int.fmod_nonneg_of_pos x hy, ?_, ?_⟩
          · rw [TCM.gcd_fmod, eg]
          · rw [← em]
            exact TCM.fmod_lt x y (by omega)
      · refine iteD0 hy ?_
        have ey : y = 0 := by omega
        subst ey
        have ex : x = ((Int.gcd t b : Nat) : Int) := by
          rw [← eg, show Int.gcd x 0 = x.natAbs from Int.gcd_zero_right x]
          omega
        subst ex
        have gp := TCM.gcd_pos t b hb
        have hs : ∀ z, CDivNW z ((Int.gcd t b : Nat) : Int) := fun z => ⟨by omega, log_lt (n := 1000) (by decide) (by decide) (Nat.lt_of_le_of_lt (by
          have := TCM.gcd_le t b hb
          omega) hz)⟩
        refine ⟨_, rfl, b, 0, rfl, rfl, _, rfl, ?_⟩
        by_cases hb0 : b > 0
        · refine iteD1 hb0 ?_
          have e : TCM.lowL t b = (t.fdiv ((Int.gcd t b : Nat) : Int), b.fdiv ((Int.gcd t b : Nat) : Int)) := if_pos hb0
          rw [e] at q
          exact ⟨_, rfl, _, rfl, t, _, rfl, rfl, hs _, _, rfl, _, rfl, b, _, rfl, rfl, hs _, by show 2 ≤ sizeLine; decide, fun p hp => q p hp⟩
        · refine iteD0 hb0 ?_
          have e : TCM.lowL t b = ((-t).fdiv ((Int.gcd t b : Nat) : Int), (-b).fdiv ((Int.gcd t b : Nat) : Int)) := if_neg hb0
          rw [e] at q
          exact ⟨_, rfl, t, rfl, _, rfl, -t, _, rfl, rfl, hs _, _, rfl, b, rfl, _, rfl, -b, _, rfl, rfl, hs _, by show 2 ≤ sizeLine; decide, fun p hp => q p hp⟩
/-! ### _law_free -/
def spFree : Sp := fun vs H Q _ => ∃ n : Int, vs = [.int n] ∧ 0 < n ∧ n ≤ 1000000 ∧ ∀ p H', Same H H' → H p = none → H' p = some (.tup [.int (TCM.free n).1, .int (TCM.free n).2]) → Q (.ref p) H'
theorem scFree : FnScope ["_law_number", "_law_square", "_law_p"] ["_law_number"] (defScope sFree) := ⟨rfl, rfl, rfl, by decide +kernel, rfl, by decide +kernel, by decide +kernel⟩
theorem ok_free (F : FnP K "_law_free" sFree f fd) : FnOk P w K mg base CX0 1 f fd ["_law_number"] spFree := by
  refine F.ok scFree (fun vs H Q E h => ?_) (fun cdv A outer s H vs Q E hr h => ?_)
  · obtain ⟨a, rfl, _⟩ := h
    rfl
  · obtain ⟨n, rfl, h0, h1, q⟩ := h
    refine ⟨_, PSs.nox (pss_cons (ps_asg (pe_tup (pa_cons pe_int (pa_cons pe_int pa_nil))) (pg_tup rfl (pgs_cons (pg_name (i := 1) scFree.nd rfl (.inl rfl)) (pgs_cons (pg_name (i := 2) scFree.nd rfl (.inl rfl)) pgs_nil))))
      (pss_cons (ps_while PassesOwn.never (pt_cmpR op_le (pe_op op_mul (pv 2) (pv 2)) (pv 0) (nomark _))
        (pss_cons (ps_while PassesOwn.never (pt_cmpR op_eq (pe_op op_mod (pv 0) (pe_op op_mul (pv 2) (pv 2))) pe_int (nomark _))
          (pss_one (ps_par (i := 0) (j := 1) rfl scFree.nd rfl rfl (by decide) rfl rfl (pa_cons (pe_op op_fdiv (pv 0) (pe_op op_mul (pv 2) (pv 2))) (pa_cons (pe_op op_mul (pv 1) (pv 2)) pa_nil)) (by rfl))))
        (pss_one (ps_set (i := 2) scFree.nd rfl (.inl rfl) (pe_op op_add (pv 2) pe_int)))))
      (pss_one (ps_ret (pe_tup (pa_cons (pv 1) (pa_cons (pv 0) pa_nil))))))), ?_⟩
    refine ⟨by show 2 ≤ sizeLine; decide, fun c hc => ?_⟩
    refine ⟨c, _, rfl, SqT.of upd_same, rfl, _, _, rfl, _, _, rfl, rfl, ?_⟩
    have sm1 : Same H (upd H c (.tup [.int 1, .int 2])) := same_upd hc
    replace q : ∀ p, (upd H c (.tup [.int 1, .int 2])) p = none → Q (.ref p) (upd (upd H c (.tup [.int 1, .int 2])) p (.tup [.int (TCM.free n).1, .int (TCM.free n).2])) := fun p hp => q p _ (sm1.trans (same_upd hp)) (sm1.free hp) upd_same
    generalize upd H c (.tup [.int 1, .int 2]) = H at q ⊢
    refine ⟨fun m σ H' => ∃ n' o p : Int, σ = [some (.int n'), some (.int o), some (.int p)] ∧ H' = H ∧ 0 < n' ∧ n' ≤ 1000000 ∧ 2 ≤ p ∧ (m : Int) + p = 1002 ∧ TCM.fr m p n' o = TCM.free n,
      ⟨1000, n, 1, 2, rfl, rfl, h0, h1, by omega, rfl, rfl⟩, fun m σ H' hW => ?_⟩
    obtain ⟨n', o, p, rfl, rfl, g0, g1, p2, ep, ge⟩ := hW
    have p9 : p ≤ 1002 := by omega
    obtain ⟨pp1, pp2⟩ := pp_le p2 p9
    refine ⟨_, rfl, _, rfl, p, p, rfl, rfl, cmul_r (by omega) (by omega), _, rfl, p * p, n', rfl, rfl, _, rfl, ?_⟩
    by_cases ht : p * p ≤ n'
    · refine iteD1 ht ?_
      cases m with
      | zero =>
        exfalso
        have : p = 1002 := by omega
        subst this
        omega
      | succ m =>
        have ge2 : TCM.fr m (p + 1) (TCM.whl 10 p n' o).1 (TCM.whl 10 p n' o).2 = TCM.free n := by
          rw [← ge]
          show _ = (if p * p ≤ n' then TCM.fr m (p + 1) (TCM.whl 10 p n' o).1 (TCM.whl 10 p n' o).2 else (o, n'))
          rw [if_pos ht]
        refine ⟨fun σ' H'' => ∃ n2 o2 : Int, σ' = [some (.int n2), some (.int o2), some (.int (p + 1))] ∧ H'' = H' ∧ 0 < n2 ∧ n2 ≤ 1000000 ∧ TCM.fr m (p + 1) n2 o2 = TCM.free n, fun σ' H'' hN => ?_, ?_⟩
        · obtain ⟨n2, o2, e1, e2, e3, e4, e5⟩ := hN
          exact ⟨m, Nat.lt_succ_self _, n2, o2, p + 1, e1, e2, e3, e4, by omega, by omega, e5⟩
        · refine ⟨fun m σ H'' => ∃ (n2 o2 : Int) (k : Nat), σ = [some (.int n2), some (.int o2), some (.int p)] ∧ H'' = H' ∧ WInn p n' o n2 o2 k ∧ n2.toNat = m,
            ⟨_, n', o, 10, rfl, rfl, WInn.start g0 g1, rfl⟩, fun m σ H'' hW => ?_⟩
          obtain ⟨n2, o2, k, rfl, rfl, hw, hm⟩ := hW
          refine ⟨_, rfl, _, rfl, _, rfl, p, p, rfl, rfl, cmul_r (by omega) (by omega), n2, p * p, rfl, rfl, by show 0 < p * p; omega, rfl, _, rfl, ?_⟩
          by_cases hz : n2 % (p * p) = 0
          · refine iteD1 (congrArg V.int hz) ?_
            obtain ⟨k2, hw2, hlt⟩ := hw.turn p2 hz
            refine ⟨fun σ' H3 => σ' = [some (.int (n2 / (p * p))), some (.int (o2 * p)), some (.int p)] ∧ H3 = H'', fun σ' H3 hN => ?_, ?_⟩
            · obtain ⟨rfl, rfl⟩ := hN
              exact ⟨_, hm ▸ hlt, _, _, k2, rfl, rfl, hw2, rfl⟩
            · exact ⟨_, rfl, _, rfl, _, rfl, p, p, rfl, rfl, cmul_r (by omega) (by omega), n2, p * p, rfl, rfl, ⟨by omega, by omega⟩, _, rfl, _, rfl, o2, p, rfl, rfl, cmul_r (by omega) (by omega), _, _, rfl, rfl, rfl⟩
          · refine iteD0 (ine hz) ?_
            have ew := hw.stop hz
            obtain ⟨w0, w1, _, _⟩ := hw
            rw [ew] at ge2
            exact ⟨_, rfl, p, 1, rfl, rfl, n2, o2, rfl, rfl, w0, w1, ge2⟩
    · refine iteD0 ht ?_
      have e : TCM.free n = (o, n') := by
        rw [← ge]
        cases m with
        | zero => rfl
        | succ m =>
          show (if p * p ≤ n' then _ else (o, n')) = _
          rw [if_neg ht]
      rw [e] at q
      exact ⟨_, rfl, _, rfl, by show 2 ≤ sizeLine; decide, fun p hp => q p hp⟩
end
end TC
namespace TC
open PySem PySem.Spec PyProof.Rows L2 TCA
theorem log1920 {n : Int} (h0 : 0 ≤ n) (h : n < 10 ^ 64) : n.natAbs.log2 < 1920 := Nat.lt_trans (PySem.Flt.log2_lt_of (show 0 < 250 by decide) (Nat.lt_of_lt_of_le (show n.natAbs < 10 ^ 64 by omega) (by decide))) (by decide)
theorem cat_len (x y : Str) : (x ++ y).length = x.length + y.length := by
  show (x.cps ++ y.cps).size = _
  exact Array.size_append
/-- the parts of a number: none, or one -/
def PartsAt (H : Hp) (p : Addr) : Option (Int × Int × Int) → Prop
  | none => H p = some (.tup [])
  | some (r, t, b) => ∃ u, H p = some (.tup [.ref u]) ∧ H u = some (.tup [.int r, .int t, .int b])
theorem PartsAt.same {H H' : Hp} {p : Addr} {o : Option (Int × Int × Int)} (e : Same H H') (h : PartsAt H p o) : PartsAt H' p o := by
  cases o with
  | none => exact e _ _ h
  | some x =>
    obtain ⟨r, t, b⟩ := x
    obtain ⟨u, h1, h2⟩ := h
    exact ⟨u, e _ _ h1, e _ _ h2⟩
/-- they are no longer than 64 figures -/
def Bd : Option (Int × Int × Int) → Prop
  | none => True
  | some (r, t, b) => 0 ≤ r ∧ r < 10 ^ 64 ∧ t.natAbs < 10 ^ 64 ∧ 0 ≤ b ∧ b < 10 ^ 64
def ExactAt (C : Addr) (H : Hp) (x : Addr) (o : Option (Int × Int × Int)) : Prop := ∃ dx p, H x = some (.ins C dx [("parts", .ref p)]) ∧ PartsAt H p o
theorem ExactAt.same {C : Addr} {H H' : Hp} {p : Addr} {o : Option (Int × Int × Int)} (e : Same H H') (h : ExactAt C H p o) : ExactAt C H' p o := by
  obtain ⟨dx, q, h1, h2⟩ := h
  exact ⟨dx, q, e _ _ h1, h2.same e⟩
def toD : Option (Int × Int × Int) → PyData
  | none => .tuple []
  | some (r, t, b) => .tuple [.tuple [.int r, .int t, .int b]]
theorem PartsAt.dp {K : PySem.W.Frag} {H : Hp} {p : Addr} {o : Option (Int × Int × Int)} (h : PartsAt H p o) : Dp K H (.ref p) (toD o) := by
  cases o with
  | none => exact .tup (SqT.of h) .nil
  | some x =>
    obtain ⟨r, t, b⟩ := x
    obtain ⟨u, h1, h2⟩ := h
    exact .tup (SqT.of h1) (.cons (.tup (SqT.of h2) (.cons (.int r) (.cons (.int t) (.cons (.int b) .nil)))) .nil)
theorem toD_shaped (o : Option (Int × Int × Int)) : SeqAt.shaped (toD o) = true := by
  cases o with
  | none => decide
  | some x =>
    obtain ⟨r, t, b⟩ := x
    rfl
theorem toD_eqv (o o' : Option (Int × Int × Int)) : PyData.eqv (toD o) (toD o') = decide (o = o') := by
  cases o with
  | none =>
    cases o' with
    | none => rfl
    | some x =>
      obtain ⟨r, t, b⟩ := x
      rfl
  | some x =>
    obtain ⟨r, t, b⟩ := x
    cases o' with
    | none => rfl
    | some y =>
      obtain ⟨r', t', b'⟩ := y
      simp [toD, PyData.eqv, PyData.eqvAll]
      by_cases h1 : r = r' <;> by_cases h2 : t = t' <;> by_cases h3 : b = b' <;> simp [h1, h2, h3]
section
variable {P : Program} {w : World} {K : PySem.W.Frag} {mg : Str → Option Value} {base : Heap} {f : Addr} {fd : FuncData}
/-! ### figures -/
def spFigures : Sp := fun vs H Q _ => ∃ n : Int, vs = [.int n] ∧ 0 ≤ n ∧ n < 10 ^ 64 ∧ ∀ (z : Str) H', Same H H' → z.length ≤ 64 → Q (.str z) H'
theorem scFigures : FnScope ["number", "blocks", "low"] ["number"] (defScope sFigures) := ⟨rfl, rfl, rfl, by decide +kernel, rfl, by decide +kernel, by decide +kernel⟩
theorem ok_figures {tB : Tok} (F : FnP K "figures" sFigures f fd) (gB : mg "BLOCK" = some (.int (10 ^ 64) tB)) (gs : mg "str" = none) : FnOk P w K mg base CX0 1 f fd ["number"] spFigures := by
  refine F.ok scFigures (fun vs H Q E h => ?_) (fun cdv A outer s H vs Q E hr h => ?_)
  · obtain ⟨a, rfl, _⟩ := h
    rfl
  · obtain ⟨n, rfl, h0, h1, q⟩ := h
    refine ⟨_, PSs.nox (pss_cons (ps_set (i := 1) scFigures.nd rfl (.inl rfl) (pe_lst pa_nil))
      (pss_cons (ps_while PassesOwn.never (pt_cmpR op_ge (pv 0) (pe_glob (v := .int (10 ^ 64)) (by rfl) gB ⟨_, rfl⟩) (nomark _)) pss_never)
      (pss_cons (ps_expr (pe_bm PySem.F.plainAttrs_list PySem.F.slot_list_append PySem.F.type_list_append mt_append (pv 1) (pa_cons (pe_callTy call_str_int (by rfl) gs (by decide +kernel) (pa_cons (pv 0) pa_nil)) pa_nil)))
      (pss_one (ps_ret (pe_bm PySem.F.plainAttrs_str PySem.F.slot_str_join PySem.F.type_str_join mt_join pe_str (pa_cons (pe_revL (pv 1)) pa_nil))))))), ?_⟩
    refine ⟨Nat.zero_le _, fun l hl => ?_⟩
    refine ⟨fun m σ H' => σ = [some (.int n), some (.ref l), none] ∧ H' = upd H l (.lst []), ⟨0, rfl, rfl⟩, fun m σ H' hW => ?_⟩
    obtain ⟨rfl, rfl⟩ := hW
    refine ⟨_, rfl, n, 10 ^ 64, rfl, rfl, _, rfl, iteD0 (by omega) ?_⟩
    refine ⟨_, rfl, .inl ⟨rfl, _, SqL.of upd_same⟩, _, rfl, n, rfl, log1920 h0 h1, l, _, _, rfl, rfl, upd_same, by show 0 < sizeLine; decide, ?_⟩
    rw [upd_upd]
    have hlen : (Str.ofString (toString n)).length ≤ 64 := toString_length_le h0 (by decide) h1
    refine ⟨rfl, _, rfl, l, _, rfl, SqL.of upd_same, fun p hp => ?_⟩
    refine ⟨_, p, [Str.ofString (toString n)], rfl, rfl, .inl (SqL.of upd_same), ?_, ?_⟩
    · show ((Str.ofString (toString n)).length + 0) + 1 * Str.length _ ≤ 16777216
      have : Str.length (Str.ofString "") = 0 := rfl
      omega
    · refine q _ _ ((same_upd hl).trans (same_upd ?_)) ?_
      · exact hp
      · show (Str.join (Str.ofString "") [Str.ofString (toString n)]).length ≤ 64
        exact hlen
/-! ### text_of_part -/
def spPart : Sp := fun vs H Q _ => ∃ r t b : Int, vs = [.int r, .int t, .int b] ∧ (0 ≤ r ∧ r < 10 ^ 64) ∧ (0 ≤ t ∧ t < 10 ^ 64) ∧ (0 ≤ b ∧ b < 10 ^ 64) ∧ ∀ (z : Str) H', Same H H' → z.length ≤ 300 → Q (.str z) H'
theorem scPart : FnScope ["root", "top", "bottom", "text"] ["root", "top", "bottom"] (defScope sTextPart) := ⟨rfl, rfl, rfl, by decide +kernel, rfl, by decide +kernel, by decide +kernel⟩
theorem big300 {n : Nat} (h : n ≤ 1000) : n ≤ sizeLine := Nat.le_of_lt (small1000 h)
theorem ok_part {fF : Addr} {fdF : FuncData} (F : FnP K "text_of_part" sTextPart f fd) (GF : FnOk P w K mg base CX0 1 fF fdF ["number"] spFigures) (bF : L2.Binds K fdF ["number"] []) (kF : PySem.W.keepIn K (.ref fF) = true) (gF : mg "figures" = some (.ref fF)) :
    FnOk P w K mg base CX0 2 f fd ["root", "top", "bottom"] spPart := by
  refine F.ok scPart (fun vs H Q E h => ?_) (fun cdv A outer s H vs Q E hr h => ?_)
  · obtain ⟨a, b, c, rfl, _⟩ := h
    rfl
  · obtain ⟨r, t, b, rfl, hr0, ht0, hb0, q⟩ := h
    refine ⟨_, PSs.nox (pss_cons (ps_if (PW.pt (pw_and (pt_cmpR op_gt (pv 0) pe_int (nomark _)) (pw_and (pt_cmpR op_eq (pv 1) pe_int (nomark _)) (pw_and1 (pt_cmpR op_eq (pv 2) pe_int (nomark _))))))
        (pss_one (ps_ret (pe_op op_add_str pe_str (pe_call GF hr (by rfl) gF kF bF .nil pass0 (pa_cons (pv 0) pa_nil))))) pss_nil)
      (pss_cons (ps_set (i := 3) scPart.nd rfl (.inl rfl) (pe_call GF hr (by rfl) gF kF bF .nil pass0 (pa_cons (pv 1) pa_nil)))
      (pss_cons (ps_if (pt_cmpR op_gt (pv 2) pe_int (nomark _)) (pss_one (ps_aug (i := 3) scPart.nd rfl (.inl rfl) (pe_op op_add_str pe_str (pe_call GF hr (by rfl) gF kF bF .nil pass0 (pa_cons (pv 2) pa_nil))) iop_add_str)) pss_nil)
      (pss_cons (ps_if (pt_cmpR op_gt (pv 0) pe_int (nomark _)) (pss_one (ps_aug (i := 3) scPart.nd rfl (.inl rfl) (pe_op op_add_str pe_str (pe_call GF hr (by rfl) gF kF bF .nil pass0 (pa_cons (pv 0) pa_nil))) iop_add_str)) pss_nil)
      (pss_one (ps_ret (pv 3))))))), ?_⟩
    have l1 : (Str.ofString "r").length = 1 := rfl
    have l2 : (Str.ofString "/").length = 1 := rfl
    have l3 : (Str.ofString "*r").length = 2 := rfl
    have rest : ∀ D : Ends, D.rt = Q → tSeq (tAsg (tCall spFigures [] E0 (tCons (tVar 1) tNil)) (gName 3))
      (tSeq (tIfS (tTest (tOp (rI0 fun i j => .bl (decide (j < i))) (tVar 2) (tC (.int 1)))) (tAug 3 (tOp (fun x y H Q => ∃ i j, x = .str i ∧ y = .str j ∧ i.length + j.length ≤ sizeLine ∧ Q (.str (i ++ j)) H) (tC (.str "/")) (tCall spFigures [] E0 (tCons (tVar 2) tNil))) (fun x y H Q => ∃ i j, x = .str i ∧ y = .str j ∧ i.length + j.length ≤ sizeLine ∧ Q (.str (i ++ j)) H)) tNext)
      (tSeq (tIfS (tTest (tOp (rI0 fun i j => .bl (decide (j < i))) (tVar 0) (tC (.int 1)))) (tAug 3 (tOp (fun x y H Q => ∃ i j, x = .str i ∧ y = .str j ∧ i.length + j.length ≤ sizeLine ∧ Q (.str (i ++ j)) H) (tC (.str "*r")) (tCall spFigures [] E0 (tCons (tVar 0) tNil))) (fun x y H Q => ∃ i j, x = .str i ∧ y = .str j ∧ i.length + j.length ≤ sizeLine ∧ Q (.str (i ++ j)) H)) tNext)
      (tRet (tVar 3)))) D [some (.int r), some (.int t), some (.int b), none] H := by
      intro D hD
      have fin : ∀ (z : Str) (H2 : Hp), Same H H2 → z.length ≤ 130 → (tSeq (tIfS (tTest (tOp (rI0 fun i j => .bl (decide (j < i))) (tVar 0) (tC (.int 1)))) (tAug 3 (tOp (fun x y H Q => ∃ i j, x = .str i ∧ y = .str j ∧ i.length + j.length ≤ sizeLine ∧ Q (.str (i ++ j)) H) (tC (.str "*r")) (tCall spFigures [] E0 (tCons (tVar 0) tNil))) (fun x y H Q => ∃ i j, x = .str i ∧ y = .str j ∧ i.length + j.length ≤ sizeLine ∧ Q (.str (i ++ j)) H)) tNext)
        (tRet (tVar 3))) D [some (.int r), some (.int t), some (.int b), some (.str z)] H2 := by
        intro z H2 sm hz
        refine ⟨_, rfl, r, 1, rfl, rfl, _, rfl, ite2 (fun _ => ?_) (fun _ => ?_)⟩
        · refine ⟨_, rfl, _, rfl, r, rfl, hr0.1, hr0.2, fun z2 H3 sm2 hz2 => ?_⟩
          refine ⟨_, _, rfl, rfl, big300 (by omega), _, _, rfl, rfl, big300 (by rw [cat_len]; omega), ?_⟩
          refine ⟨_, rfl, ?_⟩
          show D.rt _ _
          rw [hD]
          exact q _ _ (sm.trans sm2) (by rw [cat_len, cat_len]; omega)
        · refine ⟨_, rfl, ?_⟩
          show D.rt _ _
          rw [hD]
          exact q _ _ sm (by omega)
      refine ⟨_, rfl, t, rfl, ht0.1, ht0.2, fun z H2 sm hz => ?_⟩
      refine ⟨_, rfl, b, 1, rfl, rfl, _, rfl, ite2 (fun _ => ?_) (fun _ => ?_)⟩
      · refine ⟨_, rfl, _, rfl, b, rfl, hb0.1, hb0.2, fun z2 H3 sm2 hz2 => ?_⟩
        refine ⟨_, _, rfl, rfl, big300 (by omega), _, _, rfl, rfl, big300 (by rw [cat_len]; omega), ?_⟩
        exact fin _ _ (sm.trans sm2) (by rw [cat_len, cat_len]; omega)
      · exact fin _ _ sm (by omega)
    have one : ∀ D : Ends, D.rt = Q → tRet (tOp (fun x y H Q => ∃ i j, x = .str i ∧ y = .str j ∧ i.length + j.length ≤ sizeLine ∧ Q (.str (i ++ j)) H) (tC (.str "r")) (tCall spFigures [] E0 (tCons (tVar 0) tNil))) D [some (.int r), some (.int t), some (.int b), none] H := by
      intro D hD
      refine ⟨_, rfl, r, rfl, hr0.1, hr0.2, fun z2 H3 sm2 hz2 => ?_⟩
      refine ⟨_, _, rfl, rfl, big300 (by omega), ?_⟩
      rw [hD]
      exact q _ _ sm2 (by rw [cat_len]; omega)
    refine ⟨_, rfl, r, 1, rfl, rfl, _, rfl, ite2 (fun _ => ?_) (fun _ => ?_)⟩
    · refine ⟨_, rfl, rfl, _, rfl, ite2 (fun _ => ?_) (fun _ => ?_)⟩
      · refine ⟨_, rfl, rfl, _, rfl, ite2 (fun _ => ?_) (fun _ => ?_)⟩
        · exact one _ rfl
        · exact rest _ rfl
      · exact iteF (rest _ rfl)
    · exact iteF (rest _ rfl)
/-! ### text_of -/
def spTextOf : Sp := fun vs H Q _ => ∃ (p : Addr) (o : Option (Int × Int × Int)), vs = [.ref p] ∧ PartsAt H p o ∧ Bd o ∧ ∀ (z : Str) H', Same H H' → Q (.str z) H'
theorem scTextOf : FnScope ["parts", "text", "at", "root", "top", "bottom"] ["parts"] (defScope sTextOf) := ⟨rfl, rfl, rfl, by decide +kernel, rfl, by decide +kernel, by decide +kernel⟩
theorem ok_textOf {fF : Addr} {fdF : FuncData} (F : FnP K "text_of" sTextOf f fd) (GF : FnOk P w K mg base CX0 2 fF fdF ["root", "top", "bottom"] spPart) (bF : L2.Binds K fdF ["root", "top", "bottom"] []) (kF : PySem.W.keepIn K (.ref fF) = true) (gF : mg "text_of_part" = some (.ref fF))
    (gl : mg "len" = none) (ge : mg "enumerate" = none) (ga : mg "abs" = none) : FnOk P w K mg base CX0 3 f fd ["parts"] spTextOf := by
  refine F.ok scTextOf (fun vs H Q E h => ?_) (fun cdv A outer s H vs Q E hr h => ?_)
  · obtain ⟨a, o, rfl, _⟩ := h
    rfl
  · obtain ⟨p, o, rfl, hp, hb, q⟩ := h
    refine ⟨_, PSs.nox (pss_cons (ps_if (pt_cmpR op_eq (pe_callB call_len_seq (by rfl) gl PySem.boot_len (pa_cons (pv 0) pa_nil)) pe_int (nomark _)) (pss_one (ps_ret pe_str)) pss_nil)
      (pss_cons (ps_set (i := 1) scTextOf.nd rfl (.inl rfl) (pe_ifExp (pt_cmpR op_lt (pe_ix ix_tup (pe_ix ix_tup (pv 0) pe_int (fun _ _ => rfl)) pe_int (fun _ _ => rfl)) pe_int (nomark _)) pe_str pe_str))
      (pss_cons (ps_for PassesOwn.never rfl (pi_enumT (by rfl) ge (pa_cons (pv 0) pa_nil)) (pg_tup rfl (pgs_cons (pg_name (i := 2) scTextOf.nd rfl (.inl rfl)) (pgs_cons (pg_tup rfl (pgs_cons (pg_name (i := 3) scTextOf.nd rfl (.inl rfl)) (pgs_cons (pg_name (i := 4) scTextOf.nd rfl (.inl rfl)) (pgs_cons (pg_name (i := 5) scTextOf.nd rfl (.inl rfl)) pgs_nil)))) pgs_nil)))
        (pss_cons (ps_if (pt_cmpR op_gt (pv 2) pe_int (nomark _)) pss_never pss_nil)
        (pss_one (ps_aug (i := 1) scTextOf.nd rfl (.inl rfl) (pe_call GF hr (by rfl) gF kF bF .nil pass0 (pa_cons (pv 3) (pa_cons (pe_callB call_abs (by rfl) ga (by decide +kernel) (pa_cons (pv 4) pa_nil)) (pa_cons (pv 5) pa_nil)))) iop_add_str))))
      (pss_one (ps_ret (pv 1)))))), ?_⟩
    cases o with
    | none =>
      refine ⟨_, rfl, p, _, rfl, .inr (SqT.of hp), rfl, _, rfl, iteD1 rfl ?_⟩
      exact q _ _ (Same.refl _)
    | some x =>
      obtain ⟨r, t, b⟩ := x
      obtain ⟨u, h1, h2⟩ := hp
      obtain ⟨b1, b2, b3, b4, b5⟩ := hb
      refine ⟨_, rfl, p, _, rfl, .inr (SqT.of h1), rfl, _, rfl, iteD0 (ine (by show ((1 : Nat) : Int) ≠ 0; decide)) ?_⟩
      have loop : ∀ z : Str, z.length ≤ 1 → ∀ D : Ends, D.nx = (fun σ H' => tRet (tVar 1) { nx := fun _ H' => Q .non H', rt := Q } σ H') → tFor (iEnumT K (tCons (tVar 0) tNil)) (gTup K 2 (gCons (gName 2) (gCons (gTup K 3 (gCons (gName 3) (gCons (gName 4) (gCons (gName 5) gNil)))) gNil)))
        (tSeq (tIfS (tTest (tOp (rI0 fun i j => .bl (decide (j < i))) (tVar 2) (tC (.int 0)))) tNever tNext)
          (tAug 1 (tCall spPart [] E0 (tCons (tVar 3) (tCons (tCB (fun xs H Q => ∃ i, xs = [.int i] ∧ Q (.int (if i < 0 then -i else i)) H) (tCons (tVar 4) tNil)) (tCons (tVar 5) tNil)))) (fun x y H Q => ∃ i j, x = .str i ∧ y = .str j ∧ i.length + j.length ≤ sizeLine ∧ Q (.str (i ++ j)) H)))
        D [some (.ref p), some (.str z), none, none, none, none] H := by
        intro z hz D hD
        refine ⟨_, rfl, p, [.ref u], rfl, SqT.of h1, ?_⟩
        refine ⟨fun i m σ H' => i + m = 1 ∧ Same H H' ∧ ∃ (z' : Str) (v2 v3 v4 v5 : Option V), σ = [some (.ref p), some (.str z'), v2, v3, v4, v5] ∧ (i = 0 → z'.length ≤ 1),
          ⟨1, rfl, Same.refl _, z, none, none, none, none, rfl, fun _ => hz⟩, fun i m σ H' hW => ?_⟩
        obtain ⟨im, sm, z', v2, v3, v4, v5, rfl, hz'⟩ := hW
        by_cases hi : i = 0
        · subst hi
          refine .inr ⟨⟨by show 0 < 1; decide, SqT.of (sm _ _ h1)⟩, fun σ' H'' => Same H H'' ∧ ∃ (z' : Str) (v2 v3 v4 v5 : Option V), σ' = [some (.ref p), some (.str z'), v2, v3, v4, v5], fun σ' H'' hN => ?_, fun x H'' hy => ?_⟩
          · obtain ⟨s2, z2, w2, w3, w4, w5, rfl⟩ := hN
            exact ⟨0, by omega, by omega, s2, z2, w2, w3, w4, w5, rfl, fun z => by cases z⟩
          · obtain ⟨T, x1, rfl, nT, rfl, hx1⟩ := hy
            have ex1 : V.ref u = x1 := Option.some.inj hx1
            subst ex1
            have smT : Same H (upd H' T (.tup [.int ((0 : Nat) : Int), .ref u])) := sm.trans (same_upd nT)
            refine ⟨T, _, rfl, SqT.of upd_same, rfl, _, _, rfl, _, _, rfl, ?_⟩
            refine ⟨u, _, rfl, SqT.of (smT _ _ h2), rfl, _, _, rfl, _, _, rfl, _, _, rfl, rfl, rfl, ?_⟩
            refine ⟨_, rfl, ((0 : Nat) : Int), 0, rfl, rfl, _, rfl, iteD0 (by decide) ?_⟩
            refine ⟨_, rfl, _, rfl, _, rfl, t, rfl, _, rfl, r, _, b, rfl, ⟨b1, b2⟩, ?_, ⟨b4, b5⟩, fun z2 H3 s3 hz2 => ?_⟩
            · rw [TCM.abs_eq]
              exact ⟨by omega, by omega⟩
            · exact ⟨_, _, rfl, rfl, big300 (by
                have := hz' rfl
                omega), smT.trans s3, _, _, _, _, _, rfl⟩
        · refine .inl ⟨⟨by show 1 ≤ i; omega, SqT.of (sm _ _ h1)⟩, ?_⟩
          rw [hD]
          exact ⟨_, rfl, q _ _ sm⟩
      refine ⟨_, rfl, p, _, 0, _, rfl, rfl, SqT.of h1, atI_nat (j := 0) rfl, u, _, 1, _, rfl, rfl, SqT.of h2, atI_nat (j := 1) rfl, t, 0, rfl, rfl, _, rfl, ite2 (fun _ => ?_) (fun _ => ?_)⟩
      · exact loop _ (by decide) _ rfl
      · exact loop _ (by decide) _ rfl
end
end TC
namespace TC
open PySem PySem.Spec PyProof.Rows L2 TCA
section
variable {K : PySem.W.Frag} {x qual : Str} {params : Arguments} {body : List Stmt} {scope : Scope} {kws : List (Str × V)} {f : Addr} {fd : FuncData} {ps : List Str}
/-- a call with keywords of a def without other defaults -/
theorem kbinds0 (F : FunD K x qual params body scope [] kws f fd) (n : Nat) (ks : List Str) (ms : List (Str × V)) (g : {α : Type} → List α → List α → List α → List α) (hk : kws ≠ []) (hms : ∀ q ∈ ms, q ∈ kws)
    (hrel : ∀ {vs mz zs : List V} {us mv ws : List Value}, Vals vs us → Vals mz mv → Vals zs ws → Vals (g vs mz zs) (g us mv ws))
    (h : ∀ (D : Addr) (doc pm : Value) (an : Option Addr) (cdv ct : Value) (us mv ws : List Value), us.length = n → mv.length = ms.length → ws.length = ks.length →
      KwChain D ((ms.map (·.1)).zip mv) (bindArgs (PySem.W.fnOf x qual params body scope .none (.ref D) doc pm an cdv ct) ⟨us, ks.zip ws⟩) (ps.zip (g us mv ws))) :
    ∃ mv : List Value, KBn K fd ps n ks (fun us ws => g us mv ws) (fun vs zs => g vs (ms.map (·.2)) zs) := by
  obtain ⟨oc, od, dV, kV, doc, pm, an, cdv, ct, osl, rfl, lk, hcd, hD, hK⟩ := F.ex
  rcases hD with ⟨_, rfl⟩ | ⟨e, _⟩
  · rcases hK with e | ⟨D, rfl, hq⟩
    · exact absurd e hk
    · obtain ⟨mv, hl, rk, hks⟩ := kwd_vals (ms := ms) fun q hm => hq q (hms q hm)
      refine ⟨mv, ⟨fun s us ws X l1 l2 => ?_, fun r1 r2 => hrel r1 rk r2⟩⟩
      exact BindsTo.of_looks fun M => KwChain.looks X hks (h D doc pm an cdv ct us mv ws l1 hl l2)
  · exact absurd rfl e
end
abbrev kwE : List (Str × V) := [("bottom", .int 1), ("root", .int 1)]
abbrev psE : List Str := ["top", "bottom", "root"]
abbrev FnE (K : PySem.W.Frag) (f : Addr) (fd : FuncData) : Prop := FunD K "exact" "exact" (defArgs sExact) (defBody sExact) (defScope sExact) [] kwE f fd
abbrev FnM (K : PySem.W.Frag) (m q : Str) (st : Stmt) (f : Addr) (fd : FuncData) : Prop := FunD K m q (defArgs st) (defBody st) (defScope st) [] [] f fd
theorem Vals.rev : ∀ {xs : List V} {us : List Value}, Vals xs us → Vals xs.reverse us.reverse
  | _, _, .nil => .nil
  | _, _, .cons r t => by
    rw [List.reverse_cons, List.reverse_cons]
    exact (Vals.rev t).append (.cons r .nil)
section
variable {K : PySem.W.Frag} {f : Addr} {fd : FuncData}
theorem bE0 (F : FnE K f fd) : ∃ ds, Vals [.int 1, .int 1] ds ∧ L2.Binds K fd psE ds :=
  F.binds0 1 (by intro z; cases z) rfl fun D doc pm an cdv ct us ks h1 h2 => match us, ks, h1, h2 with
    | [_], [_, _], _, _ => ⟨_, _, _, _, _, _, rfl, rfl, ⟨_, _, _, _, _, _, rfl, rfl, rfl⟩⟩
theorem bEbr (F : FnE K f fd) : ∃ mv : List Value, KBn K fd psE 1 ["bottom", "root"] (fun us ws => us ++ ws) (fun vs zs => vs ++ zs) := by
  obtain ⟨mv, h⟩ := kbinds0 F (ps := psE) 1 ["bottom", "root"] [] (fun us _ ws => us ++ ws) (by intro z; cases z) (fun q hq => by cases hq) (fun a _ c => a.append c) fun D doc pm an cdv ct us mv ws h1 h2 h3 => match us, mv, ws, h1, h2, h3 with
    | [_], [], [_, _], _, _, _ => rfl
  exact ⟨mv, h⟩
theorem bErb (F : FnE K f fd) : ∃ mv : List Value, KBn K fd psE 1 ["root", "bottom"] (fun us ws => us ++ ws.reverse) (fun vs zs => vs ++ zs.reverse) := by
  obtain ⟨mv, h⟩ := kbinds0 F (ps := psE) 1 ["root", "bottom"] [] (fun us _ ws => us ++ ws.reverse) (by intro z; cases z) (fun q hq => by cases hq) (fun a _ c => a.append (Vals.rev c)) fun D doc pm an cdv ct us mv ws h1 h2 h3 => match us, mv, ws, h1, h2, h3 with
    | [_], [], [_, _], _, _, _ => rfl
  exact ⟨mv, h⟩
theorem bEr (F : FnE K f fd) : ∃ mv : List Value, KBn K fd psE 1 ["root"] (fun us ws => us ++ (mv ++ ws)) (fun vs zs => vs ++ ([.int 1] ++ zs)) :=
  kbinds0 F (ps := psE) 1 ["root"] [("bottom", .int 1)] (fun us mv ws => us ++ (mv ++ ws)) (by intro z; cases z) (fun q hq => by
    rw [List.mem_singleton.mp hq]
    exact List.mem_cons_self ..) (fun a b c => a.append (b.append c)) fun D doc pm an cdv ct us mv ws h1 h2 h3 => match us, mv, ws, h1, h2, h3 with
    | [_], [_], [_], _, _, _ => ⟨_, _, _, _, _, _, rfl, rfl, rfl⟩
theorem bEb (F : FnE K f fd) : ∃ mv : List Value, KBn K fd psE 1 ["bottom"] (fun us ws => us ++ (ws ++ mv)) (fun vs zs => vs ++ (zs ++ [.int 1])) :=
  kbinds0 F (ps := psE) 1 ["bottom"] [("root", .int 1)] (fun us mv ws => us ++ (ws ++ mv)) (by intro z; cases z) (fun q hq => by
    rw [List.mem_singleton.mp hq]
    exact List.mem_cons_of_mem _ (List.mem_cons_self ..)) (fun a b c => a.append (c.append b)) fun D doc pm an cdv ct us mv ws h1 h2 h3 => match us, mv, ws, h1, h2, h3 with
    | [_], [_], [_], _, _, _ => ⟨_, _, _, _, _, _, rfl, rfl, rfl⟩
end
/-- what is asked of the class Exact as the top has made it -/
structure TxtE (K : PySem.W.Frag) (mg : Str → Option Value) (C fI fQ fS : Addr) : Prop where
  cl : Cls K C
  nP : NoAttr K C "parts"
  mkr : Mk K C fI
  mq : Meth K C "__eq__" fQ
  ms : Meth K C "__str__" fS
  mgC : mg "Exact" = some (.ref C)
  ne : PySem.W.findIn K (.ref C) "__ne__" = some (some (.builtin "object.__ne__"))
  ca : PySem.W.findIn K (.ref C) "__class__" = some (some (.builtin "object.__class__"))
  cn : PySem.W.specialIn K (.builtin "object.__class__") "__get__" = some (some (.builtin "getset_descriptor.__get__"))
  ct : PySem.W.takesIn K (.builtin "object.__class__") = some true
  cm : PySem.W.mroIn K C (.type "object") = some true
  su : ∀ t ∈ others, PySem.W.subIn K (.type t) (.ref C) = some false ∧ PySem.W.kitOne K (.type t) (.ref C) = some false
section
variable {P : Program} {w : World} {K : PySem.W.Frag} {mg : Str → Option Value} {base : Heap} {f : Addr} {fd : FuncData} {C fI fQ fS : Addr}
theorem TxtE.ty (T : TxtE K mg C fI fQ fS) {H : Hp} {a dx : Addr} {fs : List (Str × V)} (e : H a = some (.ins C dx fs)) : TyX K H (.ref a) (.ref C) := .base (.ins e T.cl T.ca T.cn T.ct T.cm)
/-! ### __init__ -/
def spInit (C : Addr) : Sp := fun vs H Q _ => ∃ (x dx : Addr) (v : V), vs = [.ref x, v] ∧ H x = some (.ins C dx []) ∧ Q .non (upd H x (.ins C dx [("parts", v)]))
theorem scInit : FnScope ["self", "parts"] ["self", "parts"] (defScope sInit) := ⟨rfl, rfl, rfl, by decide +kernel, rfl, by decide +kernel, by decide +kernel⟩
theorem ok_init (F : FnM K "__init__" "Exact.__init__" sInit f fd) (T : TxtE K mg C fI fQ fS) : FnOk P w K mg base CX0 1 f fd ["self", "parts"] (spInit C) := by
  refine F.ok scInit (fun vs H Q E h => ?_) (fun cdv A outer s H vs Q E hr h => ?_)
  · obtain ⟨x, dx, v, rfl, _⟩ := h
    rfl
  · obtain ⟨x, dx, v, rfl, hx, q⟩ := h
    refine ⟨_, PSs.nox (pss_one (ps_fld (pv 0) (pv 1) rfl)), ?_⟩
    exact ⟨_, rfl, _, rfl, x, C, dx, [], rfl, hx, T.cl, T.nP, (by show 0 < 1000; decide), q⟩
/-! ### __str__ -/
def spStr (C : Addr) : Sp := fun vs H Q _ => ∃ (x : Addr) (o : Option (Int × Int × Int)), vs = [.ref x] ∧ ExactAt C H x o ∧ Bd o ∧ ∀ (z : Str) H', Same H H' → Q (.str z) H'
theorem scStr : FnScope ["self"] ["self"] (defScope sStr) := ⟨rfl, rfl, rfl, by decide +kernel, rfl, by decide +kernel, by decide +kernel⟩
theorem ok_str {fT : Addr} {fdT : FuncData} (F : FnM K "__str__" "Exact.__str__" sStr f fd) (T : TxtE K mg C fI fQ fS) (GT : FnOk P w K mg base CX0 3 fT fdT ["parts"] spTextOf) (bT : L2.Binds K fdT ["parts"] []) (kT : PySem.W.keepIn K (.ref fT) = true) (gT : mg "text_of" = some (.ref fT)) (gs : mg "str" = none) :
    FnOk P w K mg base CX0 4 f fd ["self"] (spStr C) := by
  refine F.ok scStr (fun vs H Q E h => ?_) (fun cdv A outer s H vs Q E hr h => ?_)
  · obtain ⟨x, o, rfl, _⟩ := h
    rfl
  · obtain ⟨x, o, rfl, ⟨dx, p, hx, hp⟩, hb, q⟩ := h
    refine ⟨_, PSs.nox (pss_one (ps_ret (pe_callTy SkE.call_str_str (by rfl) gs (by decide +kernel) (pa_cons (pe_call GT hr (by rfl) gT kT bT .nil pass0 (pa_cons (pe_fld (pv 0) rfl) pa_nil)) pa_nil)))), ?_⟩
    exact ⟨_, rfl, x, C, dx, _, _, rfl, hx, T.cl, T.nP, rfl, p, o, rfl, hp, hb, fun z H' sm => ⟨z, rfl, q z H' sm⟩⟩
/-! ### __eq__ -/
def spEqE (K : PySem.W.Frag) (C : Addr) : Sp := fun vs H Q _ => ∃ (x : Addr) (o : Option (Int × Int × Int)) (y : V), vs = [.ref x, y] ∧ ExactAt C H x o ∧
  ((∃ y' o', y = .ref y' ∧ ExactAt C H y' o' ∧ Q (.bl (decide (o = o'))) H) ∨ (∃ t, TyX K H y t ∧ PySem.W.kitOne K t (.ref C) = some false ∧ Q (.bl false) H))
theorem scEq : FnScope ["self", "other"] ["self", "other"] (defScope sEq) := ⟨rfl, rfl, rfl, by decide +kernel, rfl, by decide +kernel, by decide +kernel⟩
theorem ok_eq (F : FnM K "__eq__" "Exact.__eq__" sEq f fd) (T : TxtE K mg C fI fQ fS) (gI : mg "isinstance" = none) : FnOk P w K mg base CX0 1 f fd ["self", "other"] (spEqE K C) := by
  refine F.ok scEq (fun vs H Q E h => ?_) (fun cdv A outer s H vs Q E hr h => ?_)
  · obtain ⟨x, o, y, rfl, _⟩ := h
    rfl
  · obtain ⟨x, o, y, rfl, ⟨dx, p, hx, hp⟩, hy⟩ := h
    have hu : (A.deeper (envOfC "Exact.__eq__" (defScope sEq) s.heap.objs.size f cdv)).units + 64 < cLine := by
      have := hr.un
      omega
    refine ⟨_, PSs.nox (pss_one (ps_ret (pe_and (pe_callB call_isi (by rfl) gI (by decide +kernel) (pa_cons (pv 1) (pa_cons (pe_glob (v := .ref C) (by rfl) T.mgC rfl) pa_nil)))
      (pe_one (pe_cmpR (op_eqD hu) (pe_fld (pv 0) rfl) (pe_fld (pv 1) rfl) (nomark _)))))), ?_⟩
    rcases hy with ⟨y', o', rfl, ⟨dy, p', hy, hp'⟩, q⟩ | ⟨t, ty, kt, q⟩
    · refine ⟨_, rfl, _, _, _, _, true, rfl, .own C, T.ty hy, ?_, true, rfl, iteT ?_⟩
      · show (if ((Value.ref C) == (Value.ref C)) = true then some true else _) = some true
        rw [if_pos (by simp)]
      · refine ⟨_, rfl, x, C, dx, _, _, rfl, hx, T.cl, T.nP, rfl, _, rfl, y', C, dy, _, _, rfl, hy, T.cl, T.nP, rfl, toD o, toD o', hp.dp, hp'.dp, toD_shaped o, toD_shaped o', ?_⟩
        rw [toD_eqv]
        exact q
    · exact ⟨_, rfl, _, _, _, _, false, rfl, .own C, ty, kt, false, rfl, iteF q⟩
/-! ### lowered -/
def spLowered (C : Addr) : Sp := fun vs H Q _ => ∃ (d : Addr) (r t b : Int), vs = [.ref d, .int b] ∧ H d = some (.dK [(Sum.inl r, .int t)]) ∧ b ≠ 0 ∧ b.natAbs < 2 ^ 1000 ∧
  ∀ x H', Same H H' → H x = none → ExactAt C H' x (if t = 0 then none else some (r, (TCM.low t b).1, (TCM.low t b).2)) → Q (.ref x) H'
theorem scLowered : FnScope ["tops", "bottom", "parts", "root", "top", "below"] ["tops", "bottom"] (defScope sLowered) := ⟨rfl, rfl, rfl, by decide +kernel, rfl, by decide +kernel, by decide +kernel⟩
theorem ok_lowered {fL : Addr} {fdL fdI : FuncData} (F : FnP K "lowered" sLowered f fd) (T : TxtE K mg C fI fQ fS) (GL : FnOk P w K mg base CX0 2 fL fdL ["top", "bottom"] spLowest) (bL : L2.Binds K fdL ["top", "bottom"] []) (kL : PySem.W.keepIn K (.ref fL) = true) (gL : mg "in_lowest" = some (.ref fL))
    (GI : FnOk P w K mg base CX0 1 fI fdI ["self", "parts"] (spInit C)) (bI : L2.Binds K fdI ["self", "parts"] []) (gs : mg "sorted" = none) (gl : mg "list" = none) (gt : mg "tuple" = none) : FnOk P w K mg base CX0 3 f fd ["tops", "bottom"] (spLowered C) := by
  refine F.ok scLowered (fun vs H Q E h => ?_) (fun cdv A outer s H vs Q E hr h => ?_)
  · obtain ⟨d, r, t, b, rfl, _⟩ := h
    rfl
  · obtain ⟨d, r, t, b, rfl, hd, hb, hz, q⟩ := h
    have hu := hu_of hr
    refine ⟨_, PSs.nox (pss_cons (ps_set (i := 2) scLowered.nd rfl (.inl rfl) (pe_lst pa_nil))
      (pss_cons (ps_for PassesOwn.never rfl (pi_list (pe_callB cr_sorted (by rfl) gs (by decide +kernel) (pa_cons (pe_callTy (call_listD rfl) (by rfl) gl (by decide +kernel) (pa_cons (pv 0) pa_nil)) pa_nil))) (pg_name (i := 3) scLowered.nd rfl (.inl rfl))
        (pss_one (ps_if (pt_cmpR op_ne (pe_dget hu (pv 0) (pv 3) (fun _ _ => rfl)) pe_int (nomark _))
          (pss_cons (ps_asg (pe_call GL hr (by rfl) gL kL bL .nil pass0 (pa_cons (pe_dget hu (pv 0) (pv 3) (fun _ _ => rfl)) (pa_cons (pv 1) pa_nil))) (pg_tup rfl (pgs_cons (pg_name (i := 4) scLowered.nd rfl (.inl rfl)) (pgs_cons (pg_name (i := 5) scLowered.nd rfl (.inl rfl)) pgs_nil))))
          (pss_one (ps_expr (pe_bm PySem.F.plainAttrs_list PySem.F.slot_list_append PySem.F.type_list_append mt_append (pv 2) (pa_cons (pe_tup (pa_cons (pv 3) (pa_cons (pv 4) (pa_cons (pv 5) pa_nil)))) pa_nil))))) pss_nil)))
      (pss_one (ps_ret (pe_make T.mkr GI (hr.mono (by decide)) (by rfl) T.mgC bI .nil pass0 (pa_cons (pe_callTy call_tuple_of (by rfl) gt (by decide +kernel) (pa_cons (pv 2) pa_nil)) pa_nil)))))), ?_⟩
    -- parts = []
    refine ⟨Nat.zero_le _, fun l hl => ?_⟩
    have ndl : d ≠ l := ne_of_none hd hl
    have sm1 : Same H (upd H l (.lst [])) := same_upd hl
    -- sorted(list(tops))
    refine ⟨_, rfl, d, _, rfl, .inl (sm1 _ _ hd), fun l2 hl2 => ?_⟩
    have sm2 : Same (upd H l (.lst [])) (upd (upd H l (.lst [])) l2 (.lst [.int r])) := same_upd hl2
    refine ⟨l2, [r], rfl, SqL.of upd_same, by show 1 < 64; decide, fun ns' l3 hp hs hl3 => ?_⟩
    have ens : ns' = [r] := List.perm_singleton.mp hp
    subst ens
    have sm3 := same_upd (o := .lst ([r].map V.int)) hl3
    have n3 : l ≠ l3 := ne_of_none (sm2 l _ upd_same) hl3
    -- the loop
    refine ⟨l3, rfl, ⟨_, SqL.of upd_same⟩, for_list (xs := [.int r]) (fun i σ H' => ∃ (v3 v4 v5 : Option V) (ps : List V), σ = [some (.ref d), some (.int b), some (.ref l), v3, v4, v5] ∧ Same H H' ∧ H' l = some (.lst ps) ∧ H' l3 = some (.lst [.int r]) ∧
        (i = 0 → ps = []) ∧ (i = 1 → if t = 0 then ps = [] else ∃ u, ps = [.ref u] ∧ H' u = some (.tup [.int r, .int (TCM.low t b).1, .int (TCM.low t b).2])))
      ⟨none, none, none, [], rfl, sm1.trans (sm2.trans sm3), sm3 _ _ (sm2 _ _ upd_same), upd_same, fun _ => rfl, (fun z => by cases z)⟩ (fun i σ H' _ hP => ?_) (fun i x σ H' hx hP => ?_) (fun σ H' hP => ?_)⟩
    · obtain ⟨_, _, _, _, _, _, _, e, _⟩ := hP
      exact SqL.of e
    · obtain ⟨v3, v4, v5, ps, rfl, sm, el, el3, e0, e1⟩ := hP
      have hi : i = 0 ∧ V.int r = x := by
        cases i with
        | zero => exact ⟨rfl, Option.some.inj hx⟩
        | succ i => simp at hx
      obtain ⟨rfl, rfl⟩ := hi
      have eps := e0 rfl
      subst eps
      have hd' : H' d = some (.dK [(Sum.inl r, .int t)]) := sm _ _ hd
      have dg : ∀ {H2 : Hp}, H2 d = some (.dK [(Sum.inl r, .int t)]) → DGet H2 d (.int r) (some (.int t)) := fun {H2} e => by
        have z := DGet.k (k := Sum.inl r) e
        have ev : valV [((Sum.inl r : Key), V.int t)] (Sum.inl r) = some (.int t) := by
          unfold valV
          simp
        rw [ev] at z
        exact z
      refine ⟨_, rfl, _, rfl, d, _, rfl, dg hd', rfl, _, rfl, ?_⟩
      by_cases ht : t = 0
      · subst ht
        refine iteNS rfl ?_
        exact ⟨some (.int r), v4, v5, [], rfl, sm, el, el3, fun _ => rfl, fun _ => by rw [if_pos rfl]⟩
      · refine iteNT (ine ht) ?_
        refine ⟨_, rfl, _, rfl, d, _, rfl, dg hd', _, rfl, t, b, rfl, hb, hz, fun c hc => ?_⟩
        refine ⟨c, _, rfl, SqT.of upd_same, rfl, _, _, rfl, _, _, rfl, rfl, ?_⟩
        have smc : Same H' (upd H' c (.tup [.int (TCM.low t b).1, .int (TCM.low t b).2])) := same_upd hc
        refine ⟨_, rfl, .inl ⟨rfl, _, SqL.of (smc _ _ el)⟩, _, rfl, _, rfl, _, rfl, by show 3 ≤ sizeLine; decide, fun u hu2 => ?_⟩
        have smu := same_upd (o := .tup [.int r, .int (TCM.low t b).1, .int (TCM.low t b).2]) hu2
        have nu : u ≠ l := (ne_of_none (smc _ _ el) hu2).symm
        have elu := smu _ _ (smc _ _ el)
        refine ⟨l, _, _, rfl, rfl, elu, by show 0 < sizeLine; decide, ?_⟩
        have n3l : l3 ≠ l := n3.symm
        refine ⟨some (.int r), _, _, [.ref u], rfl, fun b2 o2 e2 => ?_, upd_same, ?_, (fun z => by cases z), fun _ => ?_⟩
        · rw [upd_ne (ne_of_none e2 hl)]
          exact smu _ _ (smc _ _ (sm _ _ e2))
        · rw [upd_ne n3l]
          exact smu _ _ (smc _ _ el3)
        · rw [if_neg ht]
          exact ⟨u, rfl, by rw [upd_ne nu, upd_same]⟩
    · obtain ⟨v3, v4, v5, ps, rfl, sm, el, el3, e0, e1⟩ := hP
      have e2 := e1 rfl
      -- return Exact(tuple(parts))
      refine ⟨_, rfl, l, ps, rfl, .inl ⟨SqL.of el, fun p hp => ?_⟩⟩
      intro x dx hx hdx hne
      have smp := same_upd (o := .tup ps) hp
      refine ⟨x, dx, .ref p, rfl, upd_same, rfl, ?_⟩
      have npx : p ≠ x := ne_of_none (H := upd H' p (.tup ps)) upd_same hx
      have npd : p ≠ dx := ne_of_none (H := upd H' p (.tup ps)) upd_same hdx
      have smx : Same (upd H' p (.tup ps)) (upd (upd (upd (upd H' p (.tup ps)) dx (.own x)) x (.ins C dx [])) x (.ins C dx [("parts", .ref p)])) := fun b2 o2 e3 => by
        rw [upd_ne (ne_of_none e3 hx), upd_ne (ne_of_none e3 hx), upd_ne (ne_of_none e3 hdx)]
        exact e3
      refine q x _ ((sm.trans smp).trans smx) ((sm.trans smp).free hx) ⟨dx, p, upd_same, ?_⟩
      refine PartsAt.same smx ?_
      by_cases ht : t = 0
      · rw [if_pos ht] at e2 ⊢
        subst e2
        exact upd_same
      · rw [if_neg ht] at e2 ⊢
        obtain ⟨u, rfl, hu3⟩ := e2
        exact ⟨u, upd_same, smp _ _ hu3⟩
end
end TC
namespace TC
open PySem PySem.Spec PyProof.Rows L2 TCA
section
variable {P : Program} {w : World} {K : PySem.W.Frag} {mg : Str → Option Value} {base : Heap} {f : Addr} {fd : FuncData} {C fI fQ fS : Addr}
/-! ### exact -/
def spExact (C : Addr) : Sp := fun vs H Q _ => ∃ t b r : Int, vs = [.int t, .int b, .int r] ∧ b ≠ 0 ∧ b.natAbs < 2 ^ 1000 ∧ TCM.Ok r ∧ ∀ x H', Same H H' → H x = none → ExactAt C H' x (TCM.ex t b r) → Q (.ref x) H'
theorem scExact : FnScope ["top", "bottom", "root", "outside", "inside", "rest"] ["top", "bottom", "root"] (defScope sExact) := ⟨rfl, rfl, rfl, by decide +kernel, rfl, by decide +kernel, by decide +kernel⟩
theorem ok_exact {fW fSq fLw : Addr} {fdW fdSq fdLw : FuncData} {tH : Tok} (F : FnE K f fd) (GW : FnOk P w K mg base CX0 1 fW fdW ["thing"] spWhole) (bW : L2.Binds K fdW ["thing"] []) (kW : PySem.W.keepIn K (.ref fW) = true) (gW : mg "is_whole" = some (.ref fW))
    (GSq : FnOk P w K mg base CX0 1 fSq fdSq ["number"] spSquares) (bSq : L2.Binds K fdSq ["number"] []) (kSq : PySem.W.keepIn K (.ref fSq) = true) (gSq : mg "squares_out" = some (.ref fSq))
    (GLw : FnOk P w K mg base CX0 3 fLw fdLw ["tops", "bottom"] (spLowered C)) (bLw : L2.Binds K fdLw ["tops", "bottom"] []) (kLw : PySem.W.keepIn K (.ref fLw) = true) (gLw : mg "lowered" = some (.ref fLw))
    (gH : mg "HIGHEST_ROOT" = some (.int 1000000 tH)) : FnOk P w K mg base CX0 4 f fd psE (spExact C) := by
  refine F.ok scExact (fun vs H Q E h => ?_) (fun cdv A outer s H vs Q E hr h => ?_)
  · obtain ⟨t, b, r, rfl, _⟩ := h
    rfl
  · obtain ⟨t, b, r, rfl, hb, hz, hR, q⟩ := h
    have hr1 := hr.mono (j := 1) (by decide)
    refine ⟨_, PSs.nox (pss_cons (ps_if (pt_not (PW.pt (pw_and (pt_val (pe_call GW hr1 (by rfl) gW kW bW .nil pass0 (pa_cons (pv 0) pa_nil))) (pw_and (pt_val (pe_call GW hr1 (by rfl) gW kW bW .nil pass0 (pa_cons (pv 1) pa_nil))) (pw_and (pt_val (pe_call GW hr1 (by rfl) gW kW bW .nil pass0 (pa_cons (pv 2) pa_nil)))
        (pw_and1 (pt_chain op_le op_le pe_int (pv 2) (pe_glob (v := .int 1000000) (by rfl) gH ⟨_, rfl⟩)))))))) pss_never pss_nil)
      (pss_cons (ps_asg (pe_call GSq hr1 (by rfl) gSq kSq bSq .nil pass0 (pa_cons (pv 2) pa_nil)) (pg_tup rfl (pgs_cons (pg_name (i := 3) scExact.nd rfl (.inl rfl)) (pgs_cons (pg_name (i := 4) scExact.nd rfl (.inl rfl)) (pgs_cons (pg_name (i := 5) scExact.nd rfl (.inl rfl)) pgs_nil)))))
      (pss_cons (ps_if (pt_cmpR op_ne (pv 5) pe_int (nomark _)) pss_never pss_nil)
      (pss_cons (ps_if (pt_cmpR op_eq (pv 1) pe_int (nomark _)) pss_never pss_nil)
      (pss_one (ps_ret (pe_call GLw hr (by rfl) gLw kLw bLw .nil pass0 (pa_cons (pe_disp (pps_cons (pv 4) (pe_op op_mul (pv 0) (pv 3)) pps_nil) rfl rfl (by intro z; cases z) (by decide)) (pa_cons (pv 1) pa_nil))))))))), ?_⟩
    refine ⟨_, rfl, t, rfl, true, rfl, iteT ?_⟩
    refine ⟨_, rfl, b, rfl, true, rfl, iteT ?_⟩
    refine ⟨_, rfl, r, rfl, true, rfl, iteT ?_⟩
    refine ⟨_, rfl, 0, r, rfl, rfl, _, rfl, iteD1 hR.1 ?_⟩
    refine ⟨r, 1000000, rfl, rfl, _, rfl, iteNS hR.2.1 ?_⟩
    obtain ⟨a1, a2, a3, a4, a5, a6⟩ := hR.all
    refine ⟨_, rfl, r, rfl, hR.1, hR.2.1, fun p H1 sm1 hp e1 => ?_⟩
    refine ⟨p, _, rfl, SqT.of e1, rfl, _, _, rfl, _, _, rfl, _, _, rfl, rfl, ?_⟩
    refine ⟨_, rfl, rfl, _, rfl, iteNS (congrArg V.int a1) ?_⟩
    refine ⟨_, rfl, rfl, _, rfl, iteD0 (ine hb) ?_⟩
    intro d hd
    refine ⟨_, rfl, _, rfl, _, rfl, t, _, rfl, rfl, .inr ⟨by omega, by omega⟩, upd_same, [(Sum.inl _, _)], rfl, by show 1 ≤ 15; decide, ?_⟩
    rw [upd_upd]
    have sm2 := same_upd (o := .dK (mergeK [] [((Sum.inl (TCM.sqOut r).2.1 : Key), V.int (t * (TCM.sqOut r).1))])) hd
    refine ⟨_, rfl, d, _, _, b, rfl, upd_same, hb, hz, fun x H' sm3 hx ex => ?_⟩
    exact q x H' ((sm1.trans sm2).trans sm3) ((sm1.trans sm2).free hx) ex
/-! ### _law_pen -/
def spPen (K : PySem.W.Frag) : Sp := fun vs H Q _ => ∃ (a : Addr) (ns : List Int), vs = [.ref a] ∧ SqL K H a (ns.map V.int) ∧ ns.length ≤ 63 ∧
  ∀ (p c : Addr) (ms : List Int) H', Same H H' → H p = none → H' p = some (.lst [.ref c, .int 0, .int 0]) → H' c = some (.lst (ms.map V.int)) → p ≠ c → Q (.ref p) H'
theorem scPen : FnScope ["_law_script"] ["_law_script"] (defScope sPen) := ⟨rfl, rfl, rfl, by decide +kernel, rfl, by decide +kernel, by decide +kernel⟩
theorem ok_pen (F : FnP K "_law_pen" sPen f fd) (gl : mg "list" = none) : FnOk P w K mg base CX0 1 f fd ["_law_script"] (spPen K) := by
  refine F.ok scPen (fun vs H Q E h => ?_) (fun cdv A outer s H vs Q E hr h => ?_)
  · obtain ⟨a, ns, rfl, _⟩ := h
    rfl
  · obtain ⟨a, ns, rfl, hS, hn, q⟩ := h
    refine ⟨_, PSs.nox (pss_one (ps_ret (pe_lst (pa_cons (pe_callTy call_list_of (by rfl) gl (by decide +kernel) (pa_cons (pe_slice sl_list (pv 0) po_none (po_some pe_int)) pa_nil)) (pa_cons pe_int (pa_cons pe_int pa_nil)))))), ?_⟩
    refine ⟨_, rfl, _, rfl, a, _, rfl, hS, fun c1 hc1 => ?_⟩
    have sm1 := same_upd (o := .lst (cutV (ns.map V.int) none (some 63))) hc1
    refine ⟨c1, _, rfl, .inl (SqL.of upd_same), fun c hc => ?_⟩
    have sm2 := same_upd (o := .lst (cutV (ns.map V.int) none (some 63))) hc
    refine ⟨by show 3 ≤ sizeLine; decide, fun p hp => ?_⟩
    have sm3 := same_upd (o := .lst [.ref c, .int 0, .int 0]) hp
    have ec : cutV (ns.map V.int) none (some 63) = ((ns.drop (HT.sIx (ns.map V.int).length 0 none)).take (HT.sIx (ns.map V.int).length (ns.map V.int).length (some 63) - HT.sIx (ns.map V.int).length 0 none)).map V.int := by
      rw [List.map_take, List.map_drop]
      rfl
    refine q p c ((ns.drop (HT.sIx (ns.map V.int).length 0 none)).take (HT.sIx (ns.map V.int).length (ns.map V.int).length (some 63) - HT.sIx (ns.map V.int).length 0 none)) _ ((sm1.trans sm2).trans sm3) ((sm1.trans sm2).free hp) upd_same ?_ ?_
    · rw [← ec]
      exact sm3 _ _ upd_same
    · exact fun e => by
        rw [e, upd_same] at hp
        cases hp
/-! ### _law_draw -/
/-- the pen: its cells at c, where it stands, what is left of a great cell -/
def PenAt (H : Hp) (p c : Addr) (ms : List Int) (n : Int) : Prop := ∃ left : Int, H p = some (.lst [.ref c, .int n, .int left]) ∧ H c = some (.lst (ms.map V.int)) ∧ p ≠ c
/-- all but the pen is as it was -/
def SameBut (p : Addr) (H H' : Hp) : Prop := ∀ b o, b ≠ p → H b = some o → H' b = some o
def spDraw : Sp := fun vs H Q _ => ∃ (p c : Addr) (ms : List Int) (n m : Int), vs = [.ref p, .int m] ∧ PenAt H p c ms n ∧ 0 ≤ n ∧ n ≤ 1000000 ∧ 0 < m ∧ m < 2 ^ 1000 ∧
  ∀ (d n' : Int) H', 0 ≤ d → d < m → n ≤ n' → n' ≤ n + 1 → PenAt H' p c ms n' → SameBut p H H' → Q (.int d) H'
theorem scDraw : FnScope ["_law_pen_here", "_law_many", "_law_found", "_law_at", "_law_cell", "_law_number"] ["_law_pen_here", "_law_many"] (defScope sDraw) := ⟨rfl, rfl, rfl, by decide +kernel, rfl, by decide +kernel, by decide +kernel⟩
theorem but_upd {p : Addr} {H H1 : Hp} {o : HO} (s : SameBut p H H1) : SameBut p H (upd H1 p o) := fun b x hb e => by
  rw [upd_ne hb]
  exact s b x hb e
set_option exponentiation.threshold 2000 in
theorem wdiv {i m : Int} (h : 0 < m) (h2 : m < 2 ^ 1000) : CDivW i m := ⟨h, Nat.lt_of_lt_of_le (PySem.Flt.log2_lt_of (show 0 < 1000 by decide) (show m.natAbs < 2 ^ 1000 by omega)) (by decide)⟩
theorem ok_draw (F : FnP K "_law_draw" sDraw f fd) (gl : mg "len" = none) : FnOk P w K mg base CX0 1 f fd ["_law_pen_here", "_law_many"] spDraw := by
  refine F.ok scDraw (fun vs H Q E h => ?_) (fun cdv A outer s H vs Q E hr h => ?_)
  · obtain ⟨p, c, ms, n, m, rfl, _⟩ := h
    rfl
  · obtain ⟨p, c, ms, n, m, rfl, ⟨left, hp, hc, hpc⟩, n0, n1, m0, m1, q⟩ := h
    refine ⟨_, PSs.nox (pss_cons (ps_if (pt_cmpR op_gt (pe_ix ix_list (pv 0) pe_int (fun _ _ => rfl)) pe_int (nomark _))
        (pss_cons (ps_set (i := 2) scDraw.nd rfl (.inl rfl) (pe_op op_mod (pe_ix ix_list (pv 0) pe_int (fun _ _ => rfl)) (pv 1)))
        (pss_cons (ps_asg (pe_op op_fdivW (pe_ix ix_list (pv 0) pe_int (fun _ _ => rfl)) (pv 1)) (pg_sub (pv 0) pe_int set_list))
        (pss_one (ps_ret (pv 2))))) pss_nil)
      (pss_cons (ps_set (i := 3) scDraw.nd rfl (.inl rfl) (pe_ix ix_list (pv 0) pe_int (fun _ _ => rfl)))
      (pss_cons (ps_asg (pe_op op_add (pv 3) pe_int) (pg_sub (pv 0) pe_int set_list))
      (pss_cons (ps_set (i := 4) scDraw.nd rfl (.inl rfl) pe_int)
      (C8.pss_cut (ps_if (pt_cmpR op_gt (pe_callB call_len_seq (by rfl) gl PySem.boot_len (pa_cons (pe_ix ix_list (pv 0) pe_int (fun _ _ => rfl)) pa_nil)) pe_int (nomark _))
        (pss_one (ps_set (i := 4) scDraw.nd rfl (.inl rfl) (pe_ix ix_list (pe_ix ix_list (pv 0) pe_int (fun _ _ => rfl)) (pe_op op_mod (pv 3) (pe_callB call_len_seq (by rfl) gl PySem.boot_len (pa_cons (pe_ix ix_list (pv 0) pe_int (fun _ _ => rfl)) pa_nil))) (fun _ _ => rfl)))) pss_nil)
      (C8.pss_cut (ps_if (PW.pt (pw_and (pt_cmpR op_lt (pv 3) (pe_callB call_len_seq (by rfl) gl PySem.boot_len (pa_cons (pe_ix ix_list (pv 0) pe_int (fun _ _ => rfl)) pa_nil)) (nomark _)) (pw_and1 (pt_cmpR op_ge (pv 4) (pe_op op_pow pe_int pe_int) (nomark _)))))
        (pss_cons (ps_asg (pe_op op_fdivW (pv 4) (pv 1)) (pg_sub (pv 0) pe_int set_list)) (pss_one (ps_ret (pe_op op_mod (pv 4) (pv 1))))) pss_nil)
      (pss_cons (ps_set (i := 5) scDraw.nd rfl (.inl rfl) (pe_op op_mod (pe_op op_mul (pe_op op_add (pe_op op_mod (pv 4) pe_int) pe_int) (pe_op op_add (pe_op op_add (pe_op op_mul (pv 3) (pv 3)) (pe_op op_mul pe_int (pv 3))) pe_int)) pe_int))
      (pss_cons (ps_set (i := 5) scDraw.nd rfl (.inl rfl) (pe_op op_mod (pe_op op_mul (pe_op op_mod (pe_op op_add (pe_op op_pow (pv 5) pe_int) (pe_op op_mul pe_int (pv 3))) pe_int) pe_int) pe_int))
      (C8.pss_cut (ps_if (pt_cmpR op_gt (pv 1) (pe_op op_pow pe_int pe_int) (nomark _))
        (pss_one (ps_set (i := 5) scDraw.nd rfl (.inl rfl) (pe_op op_add (pe_op op_mul (pv 5) pe_int) (pe_op op_mod (pe_op op_mul (pe_op op_mod (pv 5) pe_int) pe_int) pe_int)))) pss_nil)
      (pss_one (ps_ret (pe_op op_mod (pe_op op_fdiv (pv 5) pe_int) (pv 1))))))))))))), ?_⟩
    have i2 : atI ([.ref c, .int n, .int left] : List V) 2 = some (.int left) := atI_nat (j := 2) rfl
    have i1 : atI ([.ref c, .int n, .int left] : List V) 1 = some (.int n) := atI_nat (j := 1) rfl
    refine ⟨_, rfl, p, _, 2, _, rfl, rfl, SqL.of hp, i2, left, 0, rfl, rfl, _, rfl, ?_⟩
    by_cases hl : 0 < left
    · refine iteD1 hl ?_
      refine ⟨_, rfl, p, _, 2, _, rfl, rfl, SqL.of hp, i2, _, rfl, left, m, rfl, rfl, m0, ?_⟩
      refine ⟨_, rfl, p, _, 2, _, rfl, rfl, SqL.of hp, i2, _, rfl, left, m, rfl, rfl, wdiv m0 m1, ?_⟩
      refine ⟨_, rfl, p, _, 2, 2, rfl, rfl, hp, rfl, ?_⟩
      refine ⟨_, rfl, ?_⟩
      exact q _ n _ (Int.emod_nonneg _ (by omega)) (Int.emod_lt_of_pos _ m0) (by omega) (by omega) ⟨left / m, upd_same, by rw [upd_ne hpc.symm]; exact hc, hpc⟩ (but_upd fun _ _ _ e => e)
    · refine iteD0 hl ?_
      refine ⟨_, rfl, p, _, 1, _, rfl, rfl, SqL.of hp, i1, ?_⟩
      refine ⟨_, rfl, n, 1, rfl, rfl, _, rfl, p, _, 1, 1, rfl, rfl, hp, rfl, ?_⟩
      have hp2u : (upd H p (.lst [.ref c, .int (n + 1), .int left])) p = some (.lst [.ref c, .int (n + 1), .int left]) := upd_same
      have hc2u : (upd H p (.lst [.ref c, .int (n + 1), .int left])) c = some (.lst (ms.map V.int)) := by
        rw [upd_ne hpc.symm]
        exact hc
      obtain ⟨H2, eH2⟩ : ∃ H2 : Hp, upd H p (.lst [.ref c, .int (n + 1), .int left]) = H2 := ⟨_, rfl⟩
      have hp2 : H2 p = some (.lst [.ref c, .int (n + 1), .int left]) := by
        rw [← eH2]
        exact hp2u
      have hc2 : H2 c = some (.lst (ms.map V.int)) := by
        rw [← eH2]
        exact hc2u
      have sb : SameBut p H H2 := by
        rw [← eH2]
        exact but_upd fun _ _ _ e => e
      have j0 : atI ([.ref c, .int (n + 1), .int left] : List V) 0 = some (.ref c) := atI_nat (j := 0) rfl
      refine ⟨fun σ H' => ∃ cell : Int, σ = [some (.ref p), some (.int m), none, some (.int n), some (.int cell), none] ∧ H' = H2, ?_, fun σ' H' hM => ?_⟩
      · refine ⟨_, rfl, p, _, 0, _, rfl, rfl, SqL.of hp2u, j0, c, _, rfl, .inl (SqL.of hc2u), _, 0, rfl, rfl, _, rfl, ite2 (fun e => ?_) (fun e => ?_)⟩
        · have e2 : 0 < ((ms.map V.int).length : Int) := of_decide_eq_true e
          rw [List.length_map] at e2
          have hk0 := Int.emod_nonneg n (show (ms.length : Int) ≠ 0 by omega)
          have hk1 := Int.emod_lt_of_pos n e2
          have hk : (n % (ms.length : Int)).toNat < ms.length := by omega
          refine ⟨_, rfl, p, _, 0, _, rfl, rfl, SqL.of hp2u, j0, _, rfl, _, rfl, p, _, 0, _, rfl, rfl, SqL.of hp2u, j0, c, _, rfl, .inl (SqL.of hc2u), n, _, rfl, rfl, by
            show 0 < ((ms.map V.int).length : Int)
            rw [List.length_map]
            exact e2, c, _, _, .int (ms[(n % (ms.length : Int)).toNat]), rfl, rfl, SqL.of hc2u, ?_, ?_⟩
          · rw [List.length_map]
            exact at_of (j := (n % (ms.length : Int)).toNat) (by omega) (by rw [List.getElem?_map, List.getElem?_eq_getElem hk]; rfl)
          · exact ⟨_, rfl, eH2⟩
        · exact ⟨7, rfl, eH2⟩
      · obtain ⟨cell, rfl, eM⟩ := hM
        replace eM := eM.symm
        subst eM
        refine ⟨fun σ H' => σ = [some (.ref p), some (.int m), none, some (.int n), some (.int cell), none] ∧ H' = H2, ?_, fun σ' H' hM => ?_⟩
        · refine ⟨_, rfl, _, rfl, p, _, 0, _, rfl, rfl, SqL.of hp2, j0, c, _, rfl, .inl (SqL.of hc2), n, _, rfl, rfl, _, rfl, ite2 (fun _ => ?_) (fun _ => iteF ⟨rfl, rfl⟩)⟩
          refine ⟨_, rfl, 10, 18, rfl, rfl, ⟨by decide, by decide, by decide⟩, cell, _, rfl, rfl, _, rfl, ite2 (fun _ => ?_) (fun _ => ⟨rfl, rfl⟩)⟩
          refine ⟨_, rfl, _, rfl, cell, m, rfl, rfl, wdiv m0 m1, _, rfl, p, _, 2, 2, rfl, rfl, hp2, rfl, ?_⟩
          refine ⟨_, rfl, _, rfl, cell, m, rfl, rfl, m0, ?_⟩
          exact q _ (n + 1) _ (Int.emod_nonneg _ (by omega)) (Int.emod_lt_of_pos _ m0) (by omega) (by omega) ⟨cell / m, upd_same, by rw [upd_ne hpc.symm]; exact hc2, hpc⟩ (but_upd sb)
        · obtain ⟨rfl, eM⟩ := hM
          replace eM := eM.symm
          subst eM
          have c0 := Int.emod_nonneg cell (show (2147483629 : Int) ≠ 0 by decide)
          have c1 := Int.emod_lt_of_pos cell (show (0 : Int) < 2147483629 by decide)
          refine ⟨_, rfl, cell, 2147483629, rfl, rfl, (show (0 : Int) < 2147483629 by decide), _, 11, rfl, rfl, _, rfl, _, rfl, n, n, rfl, rfl, .inl ⟨by omega, by omega⟩, _, rfl, 5, n, rfl, rfl, .inl ⟨by decide, by decide⟩, _, _, rfl, rfl, _, 3, rfl, rfl, _, _, rfl, rfl, .inl ⟨by omega, by omega⟩, _, 2147483647, rfl, rfl, (show (0 : Int) < 2147483647 by decide), ?_⟩
          have hz2 : ∀ z : Int, (z % 2147483647).natAbs < 2 ^ 64 := fun z => by
            have d0 := Int.emod_nonneg z (show (2147483647 : Int) ≠ 0 by decide)
            have d1 := Int.emod_lt_of_pos z (show (0 : Int) < 2147483647 by decide)
            omega
          refine ⟨_, rfl, _, 3, rfl, rfl, ⟨by decide, by decide, hz2 _⟩, _, rfl, 69621, n, rfl, rfl, .inl ⟨by decide, by decide⟩, _, _, rfl, rfl, _, 2147483587, rfl, rfl, (show (0 : Int) < 2147483587 by decide), _, 40692, rfl, rfl, .inr ⟨by decide, by decide⟩, _, 2147483399, rfl, rfl, (show (0 : Int) < 2147483399 by decide), ?_⟩
          refine ⟨fun σ H' => ∃ z : Int, σ = [some (.ref p), some (.int m), none, some (.int n), some (.int cell), some (.int z)] ∧ H' = H2, ?_, fun σ' H' hM => ?_⟩
          · refine ⟨_, rfl, 10, 6, rfl, rfl, ⟨by decide, by decide, by decide⟩, m, _, rfl, rfl, _, rfl, ite2 (fun _ => ?_) (fun _ => ⟨_, rfl, rfl⟩)⟩
            exact ⟨_, rfl, _, 2147483629, rfl, rfl, .inr ⟨by decide, by decide⟩, _, rfl, _, 1000003, rfl, rfl, (show (0 : Int) < 1000003 by decide), _, 48271, rfl, rfl, .inr ⟨by decide, by decide⟩, _, 2147483587, rfl, rfl, (show (0 : Int) < 2147483587 by decide), _, _, rfl, rfl, _, rfl, rfl⟩
          · obtain ⟨z, rfl, eM⟩ := hM
            replace eM := eM.symm
            subst eM
            refine ⟨_, rfl, z, 64, rfl, rfl, ⟨by decide, by decide⟩, _, rfl, _, m, rfl, rfl, m0, ?_⟩
            exact q _ (n + 1) _ (Int.emod_nonneg _ (by omega)) (Int.emod_lt_of_pos _ m0) (by omega) (by omega) ⟨left, hp2, hc2, hpc⟩ sb
/-! ### _law_parts_due -/
def spDue : Sp := fun vs H Q _ => ∃ u b r : Int, vs = [.int u, .int b, .int r] ∧ b ≠ 0 ∧ b.natAbs < 2 ^ 1000 ∧ TCM.Ok r ∧ ∀ p H', Same H H' → H p = none → PartsAt H' p (TCM.due u b r) → Q (.ref p) H'
theorem scDue : FnScope ["_law_up", "_law_under", "_law_r", "_law_square", "_law_free_here"] ["_law_up", "_law_under", "_law_r"] (defScope sDue) := ⟨rfl, rfl, rfl, by decide +kernel, rfl, by decide +kernel, by decide +kernel⟩
theorem ok_due {fF fL : Addr} {fdF fdL : FuncData} (F : FnP K "_law_parts_due" sDue f fd) (GF : FnOk P w K mg base CX0 1 fF fdF ["_law_number"] spFree) (bF : L2.Binds K fdF ["_law_number"] []) (kF : PySem.W.keepIn K (.ref fF) = true) (gF : mg "_law_free" = some (.ref fF))
    (GL : FnOk P w K mg base CX0 1 fL fdL ["_law_up", "_law_under"] spLowL) (bL : L2.Binds K fdL ["_law_up", "_law_under"] []) (kL : PySem.W.keepIn K (.ref fL) = true) (gL : mg "_law_low" = some (.ref fL)) : FnOk P w K mg base CX0 2 f fd ["_law_up", "_law_under", "_law_r"] spDue := by
  refine F.ok scDue (fun vs H Q E h => ?_) (fun cdv A outer s H vs Q E hr h => ?_)
  · obtain ⟨u, b, r, rfl, _⟩ := h
    rfl
  · obtain ⟨u, b, r, rfl, hb, hz, hR, q⟩ := h
    refine ⟨_, PSs.nox (pss_cons (ps_if (PW.pt (pw_or (pt_cmpR op_eq (pv 0) pe_int (nomark _)) (pw_or1 (pt_cmpR op_eq (pv 2) pe_int (nomark _))))) (pss_one (ps_ret (pe_tup pa_nil))) pss_nil)
      (pss_cons (ps_asg (pe_call GF hr (by rfl) gF kF bF .nil pass0 (pa_cons (pv 2) pa_nil)) (pg_tup rfl (pgs_cons (pg_name (i := 3) scDue.nd rfl (.inl rfl)) (pgs_cons (pg_name (i := 4) scDue.nd rfl (.inl rfl)) pgs_nil))))
      (pss_one (ps_ret (pe_tup (pa_cons (pe_op op_catT (pe_tup (pa_cons (pv 4) pa_nil)) (pe_call GL hr (by rfl) gL kL bL .nil pass0 (pa_cons (pe_op op_mul (pv 0) (pv 3)) (pa_cons (pv 1) pa_nil)))) pa_nil)))))), ?_⟩
    have none_ : (u = 0 ∨ r = 0) → ∀ D : Ends, D.rt = Q → tRet (tTup tNil) D [some (.int u), some (.int b), some (.int r), none, none] H := by
      intro hor D hD
      have e : TCM.due u b r = none := if_pos hor
      rw [e] at q
      refine ⟨Nat.zero_le _, fun p hp => ?_⟩
      rw [hD]
      exact q p _ (same_upd hp) hp upd_same
    refine ⟨_, rfl, rfl, _, rfl, ?_⟩
    by_cases hu0 : u = 0
    · refine iteD1 (congrArg V.int hu0) (iteT ?_)
      exact none_ (.inl hu0) _ rfl
    · refine iteD0 (ine hu0) ?_
      refine ⟨_, rfl, rfl, _, rfl, ?_⟩
      by_cases hr0 : r = 0
      · refine iteD1 (congrArg V.int hr0) ?_
        exact none_ (.inr hr0) _ rfl
      · refine iteD0 (ine hr0) ?_
        obtain ⟨a1, a2, a3, a4, a5, a6⟩ := hR.all
        obtain ⟨a7, a8⟩ := a6 hr0
        have e : TCM.due u b r = some ((TCM.free r).2, (TCM.lowL (u * (TCM.free r).1) b).1, (TCM.lowL (u * (TCM.free r).1) b).2) := if_neg (by omega)
        rw [e] at q
        have hf : (TCM.free r).1 = (TCM.sqOut r).1 := by rw [a8]
        have r0 := hR.1
        refine ⟨_, rfl, r, rfl, by omega, hR.2.1, fun c H1 sm1 hc ec => ?_⟩
        refine ⟨c, _, rfl, SqT.of ec, rfl, _, _, rfl, _, _, rfl, rfl, ?_⟩
        refine ⟨_, rfl, by show 1 ≤ sizeLine; decide, fun c2 hc2 => ?_⟩
        have sm2 := same_upd (o := .tup [.int (TCM.free r).2]) hc2
        refine ⟨_, rfl, _, rfl, u, _, rfl, rfl, .inr ⟨by omega, by omega⟩, _, rfl, _, b, rfl, hb, hz, fun c3 hc3 => ?_⟩
        have sm3 := same_upd (o := .tup [.int (TCM.lowL (u * (TCM.free r).1) b).1, .int (TCM.lowL (u * (TCM.free r).1) b).2]) hc3
        refine ⟨c2, c3, _, _, rfl, rfl, SqT.of (sm3 _ _ upd_same), SqT.of upd_same, (by intro z; cases z), (by show 3 ≤ sizeLine; decide), (fun z => by cases z), fun _ v hv => ?_⟩
        have sm4 := same_upd (o := .tup ([.int (TCM.free r).2] ++ [.int (TCM.lowL (u * (TCM.free r).1) b).1, .int (TCM.lowL (u * (TCM.free r).1) b).2])) hv
        refine ⟨by show 1 ≤ sizeLine; decide, fun p hp => ?_⟩
        have sm5 := same_upd (o := .tup [.ref v]) hp
        have sm := ((sm1.trans sm2).trans sm3).trans sm4
        exact q p _ (sm.trans sm5) (sm.free hp) ⟨v, upd_same, sm5 _ _ upd_same⟩
end
end TC
namespace TC
open PySem PySem.Spec PyProof.Rows L2 TCA
theorem pick (vs : List Int) {d : Int} (h0 : 0 ≤ d) (h1 : d < vs.length) : ∃ v, v ∈ vs ∧ atI (vs.map V.int) d = some (.int v) := by
  have hk : d.toNat < vs.length := by omega
  exact ⟨vs[d.toNat], List.getElem_mem hk, at_of (j := d.toNat) (by omega) (by rw [List.getElem?_map, List.getElem?_eq_getElem hk]; rfl)⟩
theorem far_ok : ∀ v ∈ ([3, 1000, 10 ^ 59] : List Int), 1 ≤ v ∧ v ≤ 10 ^ 59 := by decide
set_option exponentiation.threshold 2000 in
theorem pow1000 {b : Int} (h : b.natAbs ≤ 10 ^ 59) : b.natAbs < 2 ^ 1000 := Nat.lt_of_le_of_lt h (Nat.lt_of_lt_of_le (show 10 ^ 59 < 2 ^ 200 by decide) (Nat.pow_le_pow_right (by decide) (by decide)))
theorem bd_ex {t b r : Int} (ht : t.natAbs ≤ 10 ^ 59 + 1) (hb : b ≠ 0) (hb2 : b.natAbs ≤ 10 ^ 59) (hR : TCM.Ok r) : Bd (TCM.ex t b r) := by
  obtain ⟨a1, a2, a3, a4, a5, a6⟩ := hR.all
  unfold TCM.ex
  split
  · trivial
  · obtain ⟨l1, l2⟩ := TCM.low_abs (t * (TCM.sqOut r).1) b hb
    have l3 := TCM.low_pos (t * (TCM.sqOut r).1) b hb
    rw [Int.natAbs_mul] at l1
    have m1 : t.natAbs * (TCM.sqOut r).1.natAbs ≤ (10 ^ 59 + 1) * 1000 := Nat.mul_le_mul ht (by omega)
    refine ⟨by omega, by omega, Nat.lt_of_le_of_lt (Nat.le_trans l1 m1) (by decide), by omega, ?_⟩
    have : (TCM.low (t * (TCM.sqOut r).1) b).2.natAbs < 10 ^ 64 := Nat.lt_of_le_of_lt (Nat.le_trans l2 hb2) (by decide)
    omega
/-- the pen has been asked at most so often -/
def PenMost (p c : Addr) (ms : List Int) (N : Int) (H : Hp) : Prop := ∃ n, PenAt H p c ms n ∧ 0 ≤ n ∧ n ≤ N
theorem PenAt.same {p c : Addr} {ms : List Int} {n : Int} {H H' : Hp} (e : Same H H') (h : PenAt H p c ms n) : PenAt H' p c ms n := by
  obtain ⟨left, h1, h2, h3⟩ := h
  exact ⟨left, e _ _ h1, e _ _ h2, h3⟩
theorem PenMost.same {p c : Addr} {ms : List Int} {n : Int} {H H' : Hp} (e : Same H H') (h : PenMost p c ms n H) : PenMost p c ms n H' := by
  obtain ⟨m, h1, h2⟩ := h
  exact ⟨m, h1.same e, h2⟩
theorem PartsAt.tup {H : Hp} {p : Addr} {o : Option (Int × Int × Int)} (h : PartsAt H p o) : ∃ xs, H p = some (.tup xs) := by
  cases o with
  | none => exact ⟨_, h⟩
  | some x =>
    obtain ⟨u, h1, _⟩ := h
    exact ⟨_, h1⟩
/-- what two askings have told -/
structure Told (C : Addr) (t b r : Int) (l x1 x2 : Addr) (H : Hp) : Prop where
  li : H l = some (.lst [.ref x1, .ref x2])
  e1 : ExactAt C H x1 (TCM.ex t b r)
  e2 : ExactAt C H x2 (TCM.ex t b r)
theorem Told.same {C : Addr} {t b r : Int} {l x1 x2 : Addr} {H H' : Hp} (e : Same H H') (h : Told C t b r l x1 x2 H) : Told C t b r l x1 x2 H' := ⟨e _ _ h.li, h.e1.same e, h.e2.same e⟩
section
variable {P : Program} {w : World} {K : PySem.W.Frag} {mg : Str → Option Value} {base : Heap} {f : Addr} {fd : FuncData} {C fI fQ fS : Addr}
/-- all that law asks of the others -/
structure All (P : Program) (w : World) (K : PySem.W.Frag) (mg : Str → Option Value) (base : Heap) (C fI fQ fS fE fP fD fU : Addr) (fdQ fdS fdE fdP fdD fdU : FuncData) : Prop where
  T : TxtE K mg C fI fQ fS
  GQ : FnOk P w K mg base CX0 1 fQ fdQ ["self", "other"] (spEqE K C)
  bQ : L2.Binds K fdQ ["self", "other"] []
  GS : FnOk P w K mg base CX0 4 fS fdS ["self"] (spStr C)
  bS : L2.Binds K fdS ["self"] []
  FE : FnE K fE fdE
  GE : FnOk P w K mg base CX0 4 fE fdE psE (spExact C)
  gE : mg "exact" = some (.ref fE)
  GP : FnOk P w K mg base CX0 1 fP fdP ["_law_script"] (spPen K)
  bP : L2.Binds K fdP ["_law_script"] []
  kP : PySem.W.keepIn K (.ref fP) = true
  gP : mg "_law_pen" = some (.ref fP)
  GD : FnOk P w K mg base CX0 1 fD fdD ["_law_pen_here", "_law_many"] spDraw
  bD : L2.Binds K fdD ["_law_pen_here", "_law_many"] []
  kD : PySem.W.keepIn K (.ref fD) = true
  gD : mg "_law_draw" = some (.ref fD)
  GU : FnOk P w K mg base CX0 2 fU fdU ["_law_up", "_law_under", "_law_r"] spDue
  bU : L2.Binds K fdU ["_law_up", "_law_under", "_law_r"] []
  kU : PySem.W.keepIn K (.ref fU) = true
  gU : mg "_law_parts_due" = some (.ref fU)
  gI : mg "isinstance" = none
  gR : mg "range" = none
  gs : mg "str" = none
def spLaw (K : PySem.W.Frag) : Sp := fun vs H Q _ => ∃ (a : Addr) (ns : List Int), vs = [.ref a] ∧ SqL K H a (ns.map V.int) ∧ ns.length ≤ 63 ∧ ∀ H', Q (.bl true) H'
theorem scLaw : FnScope ["_law_script", "_law_pen_here", "_law_k", "_law_far", "_law_up", "_law_under", "_law_some", "_law_r", "_law_told", "_law_number", "_law_thing"] ["_law_script"] (defScope sLaw) := ⟨rfl, rfl, rfl, by decide +kernel, rfl, by decide +kernel, by decide +kernel⟩
theorem notFirst_of (T : TxtE K mg C fI fQ fS) {t : String} (h : t ∈ others) : PySem.W.notFirst K C (.type t) = true := by
  unfold PySem.W.notFirst
  rw [(T.su t h).1]
  simp
theorem notFirst_self : PySem.W.notFirst K C (.ref C) = true := by
  unfold PySem.W.notFirst
  simp
set_option exponentiation.threshold 2000 in
set_option maxHeartbeats 0 in
theorem ok_law {fE fP fD fU : Addr} {fdQ fdS fdE fdP fdD fdU : FuncData} (F : FnP K "law" sLaw f fd) (Z : All P w K mg base C fI fQ fS fE fP fD fU fdQ fdS fdE fdP fdD fdU) : FnOk P w K mg base CX0 7 f fd ["_law_script"] (spLaw K) := by
  obtain ⟨T, GQ, bQ, GS, bS, FE, GE, gE, GP, bP, kP, gP, GD, bD, kD, gD, GU, bU, kU, gU, gI, gR, gs⟩ := Z
  obtain ⟨dsE, vE, bE⟩ := bE0 FE
  obtain ⟨mv1, kb1⟩ := bEbr FE
  obtain ⟨mv2, kb2⟩ := bErb FE
  obtain ⟨mv3, kb3⟩ := bEr FE
  obtain ⟨mv4, kb4⟩ := bEb FE
  refine F.ok scLaw (fun vs H Q E h => ?_) (fun cdv A outer s H vs Q E hr h => ?_)
  · obtain ⟨a, ns, rfl, _⟩ := h
    rfl
  · obtain ⟨a, ns, rfl, hS, hn, q⟩ := h
    have hr1 := hr.mono (j := 1) (by decide)
    have hr2 := hr.mono (j := 2) (by decide)
    have hr4 := hr.mono (j := 4) (by decide)
    have hu : (A.deeper (envOfC "law" (defScope sLaw) s.heap.objs.size f cdv)).units + 64 < cLine := by
      have := hr.un
      omega
    refine ⟨_, PSs.nox (pss_cons (ps_set (i := 1) scLaw.nd rfl (.inl rfl) (pe_call GP hr1 (by rfl) gP kP bP .nil pass0 (pa_cons (pv 0) pa_nil)))
      (pss_cons (ps_for PassesOwn.never rfl (pi_range1 (by rfl) gR (pa_cons (pe_op op_add pe_int (pe_call GD hr1 (by rfl) gD kD bD .nil pass0 (pa_cons (pv 1) (pa_cons pe_int pa_nil)))) pa_nil)) (pg_name (i := 2) scLaw.nd rfl (.inl rfl))
        -- far
        (C8.pss_cut (ps_set (i := 3) scLaw.nd rfl (.inl rfl) (pe_ix ix_list (pe_lst (pa_cons pe_int (pa_cons pe_int (pa_cons (pe_op op_pow pe_int pe_int) pa_nil)))) (pe_call GD hr1 (by rfl) gD kD bD .nil pass0 (pa_cons (pv 1) (pa_cons pe_int pa_nil))) (fun _ _ => rfl)))
        -- up, under
        (C8.pss_cut (ps_par (i := 4) (j := 5) rfl scLaw.nd rfl rfl (by decide) rfl rfl
            (pa_cons (pe_op op_sub (pe_call GD hr1 (by rfl) gD kD bD .nil pass0 (pa_cons (pv 1) (pa_cons (pe_op op_add (pe_op op_mul pe_int (pv 3)) pe_int) pa_nil))) (pv 3))
            (pa_cons (pe_op op_sub (pe_call GD hr1 (by rfl) gD kD bD .nil pass0 (pa_cons (pv 1) (pa_cons (pe_op op_add (pe_op op_mul pe_int (pv 3)) pe_int) pa_nil))) (pv 3)) pa_nil)) (by rfl))
        (C8.pss_cut (ps_set (i := 5) scLaw.nd rfl (.inl rfl) (pe_ifExp (pt_cmpR op_ne (pv 5) pe_int (nomark _)) (pv 5) pe_int))
        -- some, r
        (C8.pss_cut (ps_set (i := 6) scLaw.nd rfl (.inl rfl) (pe_lst (pa_cons pe_int (pa_cons pe_int (pa_cons pe_int (pa_cons pe_int (pa_cons pe_int (pa_cons (pe_op op_mul pe_int pe_int) (pa_cons (pe_op op_pow pe_int pe_int) (pa_cons pe_int (pa_cons pe_int (pa_cons pe_int (pa_cons (pe_op op_mul (pe_op op_mul pe_int pe_int) pe_int)
            (pa_cons (pe_op op_add pe_int (pe_call GD hr1 (by rfl) gD kD bD .nil pass0 (pa_cons (pv 1) (pa_cons pe_int pa_nil)))) pa_nil))))))))))))))
        (C8.pss_cut (ps_set (i := 7) scLaw.nd rfl (.inl rfl) (pe_ix ix_list (pv 6) (pe_call GD hr1 (by rfl) gD kD bD .nil pass0 (pa_cons (pv 1) (pa_cons pe_int pa_nil))) (fun _ _ => rfl)))
        -- told
        (C8.pss_cut (ps_set (i := 8) scLaw.nd rfl (.inl rfl) (pe_lst (pa_cons (pe_callN GE hr4 (by rfl) gE FE.kp kb1 pass0 (pa_cons (pv 4) pa_nil) (pk_cons (pv 5) (pk_cons (pv 7) pk_nil)))
            (pa_cons (pe_callN GE hr4 (by rfl) gE FE.kp kb2 pass0 (pa_cons (pv 4) pa_nil) (pk_cons (pv 7) (pk_cons (pv 5) pk_nil))) pa_nil))))
        (C8.pss_cut (ps_for PassesOwn.never rfl (pi_list (pv 8)) (pg_name (i := 9) scLaw.nd rfl (.inl rfl))
            (pss_one (ps_if (PW.pt (pw_or (pt_not (pt_val (pe_callB call_isi (by rfl) gI (by decide +kernel) (pa_cons (pv 9) (pa_cons (pe_glob (v := .ref C) (by rfl) T.mgC rfl) pa_nil)))))
              (pw_or1 (pt_cmpR (op_neD hu) (pe_fld (pv 9) rfl) (pe_call GU hr2 (by rfl) gU kU bU .nil pass0 (pa_cons (pv 4) (pa_cons (pv 5) (pa_cons (pv 7) pa_nil)))) (nomark _))))) pss_never pss_nil)))
        (C8.pss_cut (ps_if (PW.pt (pw_or (pt_cmpR (op_neO GQ T.mq.at_ T.mq.fn bQ pass0 T.ne T.cm hr2) (pe_ix ix_list (pv 8) pe_int (fun _ _ => rfl)) (pe_ix ix_list (pv 8) pe_int (fun _ _ => rfl)) (nomark _))
              (pw_or1 (pt_cmpR (op_neD hu) (pe_fld (pe_call GE hr4 (by rfl) gE FE.kp bE vE pass0 (pa_cons (pv 4) pa_nil)) rfl) (pe_call GU hr2 (by rfl) gU kU bU .nil pass0 (pa_cons (pv 4) (pa_cons pe_int (pa_cons pe_int pa_nil)))) (nomark _))))) pss_never pss_nil)
        (C8.pss_cut (ps_if (pt_cmpR (op_neD hu) (pe_fld (pe_callN GE hr4 (by rfl) gE FE.kp kb3 pass0 (pa_cons (pv 4) pa_nil) (pk_cons (pv 7) pk_nil)) rfl) (pe_call GU hr2 (by rfl) gU kU bU .nil pass0 (pa_cons (pv 4) (pa_cons pe_int (pa_cons (pv 7) pa_nil)))) (nomark _)) pss_never pss_nil)
        (C8.pss_cut (ps_if (PW.pt (pw_or (pt_cmpR (op_neD hu) (pe_fld (pe_callN GE hr4 (by rfl) gE FE.kp kb4 pass0 (pa_cons (pv 4) pa_nil) (pk_cons (pv 5) pk_nil)) rfl) (pe_call GU hr2 (by rfl) gU kU bU .nil pass0 (pa_cons (pv 4) (pa_cons (pv 5) (pa_cons pe_int pa_nil)))) (nomark _))
              (pw_or1 (pt_cmpR (op_eqO GQ T.mq.at_ T.mq.fn bQ pass0 hr1) (pe_call GE hr4 (by rfl) gE FE.kp bE vE pass0 (pa_cons (pv 4) pa_nil)) (pe_call GE hr4 (by rfl) gE FE.kp bE vE pass0 (pa_cons (pe_op op_add (pv 4) pe_int) pa_nil)) (nomark _))))) pss_never pss_nil)
        (pss_one (ps_for PassesOwn.never rfl (pi_list (pe_lst (pa_cons (pv 4) (pa_cons pe_non (pa_cons (pe_callTy (call_strO GS T.ms.at_ T.ms.fn bS pass0 hr) (by rfl) gs (by decide +kernel) (pa_cons (pe_ix ix_list (pv 8) pe_int (fun _ _ => rfl)) pa_nil))
              (pa_cons (pe_fld (pe_ix ix_list (pv 8) pe_int (fun _ _ => rfl)) rfl) (pa_cons (pe_lst (pa_cons (pe_ix ix_list (pv 8) pe_int (fun _ _ => rfl)) pa_nil)) (pa_cons pe_int (pa_cons pe_bl pa_nil))))))))) (pg_name (i := 10) scLaw.nd rfl (.inl rfl))
            (pss_one (ps_if (pt_cmpR (op_eqO GQ T.mq.at_ T.mq.fn bQ pass0 hr1) (pe_ix ix_list (pv 8) pe_int (fun _ _ => rfl)) (pv 10) (nomark _)) pss_never pss_nil)))))))))))))))
      (pss_one (ps_ret pe_bl)))), ?_⟩
    -- pen
    refine ⟨_, rfl, a, ns, rfl, hS, hn, fun p c ms H1 sm1 hp0 hp hc hpc => ?_⟩
    have pen0 : PenAt H1 p c ms 0 := ⟨0, hp, hc, hpc⟩
    -- range(1 + draw)
    refine ⟨_, rfl, p, c, ms, 0, 30, rfl, pen0, by decide, by decide, by decide, by decide, fun d0 n0 H2 d00 d01 n00 n01 pen1 sb1 => ?_⟩
    refine ⟨1, d0, rfl, rfl, 1 + d0, rfl, by omega, by omega, ?_⟩
    refine for_range (n := (1 + d0).toNat) (fun i σ H' => ∃ v2 v3 v4 v5 v6 v7 v8 v9 v10 : Option V, σ = [some (.ref a), some (.ref p), v2, v3, v4, v5, v6, v7, v8, v9, v10] ∧ PenMost p c ms (1 + 5 * i) H')
      ⟨none, none, none, none, none, none, none, none, none, rfl, n0, pen1, by omega, by omega⟩ (fun i σ H' hi hP => ?_) (fun σ H' hP => ?_)
    · obtain ⟨v2, v3, v4, v5, v6, v7, v8, v9, v10, rfl, n, pen, hn0, hn1⟩ := hP
      have hi30 : (i : Int) < 30 := by omega
      -- far
      refine ⟨fun σ H'' => ∃ far : Int, σ = [some (.ref a), some (.ref p), some (.int (0 + (i : Nat))), some (.int far), v4, v5, v6, v7, v8, v9, v10] ∧ 1 ≤ far ∧ far ≤ 10 ^ 59 ∧ PenMost p c ms (1 + 5 * i + 1) H'', ?_, fun σ' H'' hM => ?_⟩
      · refine ⟨10, 59, rfl, rfl, ⟨by decide, by decide, by decide⟩, by show 3 ≤ sizeLine; decide, fun l hl => ?_⟩
        refine ⟨_, rfl, p, c, ms, n, 3, rfl, pen.same (same_upd hl), hn0, by omega, by decide, by decide, fun d n' H3 dd0 dd1 nn0 nn1 pen' sb => ?_⟩
        obtain ⟨v, hv, ev⟩ := pick [3, 1000, 10 ^ 59] dd0 dd1
        obtain ⟨f1, f2⟩ := far_ok v hv
        have hlp : l ≠ p := by
          obtain ⟨_, z, _⟩ := pen
          exact (ne_of_none z hl).symm
        refine ⟨l, _, d, _, rfl, rfl, SqL.of (sb l _ hlp upd_same), ev, v, rfl, f1, f2, n', pen', by omega, by omega⟩
      obtain ⟨far, rfl, f1, f2, n2, pen2, g0, g1⟩ := hM
      -- up, under
      refine ⟨fun σ H3 => ∃ up un : Int, σ = [some (.ref a), some (.ref p), some (.int (0 + (i : Nat))), some (.int far), some (.int up), some (.int un), v6, v7, v8, v9, v10] ∧ up.natAbs ≤ 10 ^ 59 ∧ un.natAbs ≤ 10 ^ 59 ∧ PenMost p c ms (1 + 5 * i + 3) H3, ?_, fun σ' H3 hM => ?_⟩
      · have fb : 2 * far + 1 < 2 ^ 1000 := by
          have z := pow1000 (b := far) (by omega)
          have z2 : (10 : Int) ^ 59 * 2 + 1 < 2 ^ 300 := by decide
          have z3 : (2 : Int) ^ 300 ≤ 2 ^ 1000 := by decide +kernel
          omega
        refine ⟨_, rfl, _, rfl, 2, far, rfl, rfl, .inl ⟨by decide, by decide⟩, _, 1, rfl, rfl, p, c, ms, n2, _, rfl, pen2, g0, by omega, by show 0 < 2 * far + 1; omega, fb, fun d n' H4 dd0 dd1 nn0 nn1 pen' sb => ?_⟩
        refine ⟨_, rfl, d, far, rfl, rfl, ?_⟩
        refine ⟨_, rfl, _, rfl, 2, far, rfl, rfl, .inl ⟨by decide, by decide⟩, _, 1, rfl, rfl, p, c, ms, n', _, rfl, pen', by omega, by omega, by show 0 < 2 * far + 1; omega, fb, fun d' n'' H5 dd0' dd1' nn0' nn1' pen'' sb' => ?_⟩
        refine ⟨_, rfl, d', far, rfl, rfl, _, _, rfl, d - far, d' - far, rfl, ?_, ?_, n'', pen'', by omega, by omega⟩
        · omega
        · omega
      obtain ⟨up, un, rfl, u1, u2, n3, pen3, g2, g3⟩ := hM
      refine ⟨fun σ H4 => ∃ b : Int, σ = [some (.ref a), some (.ref p), some (.int (0 + (i : Nat))), some (.int far), some (.int up), some (.int b), v6, v7, v8, v9, v10] ∧ b ≠ 0 ∧ b.natAbs ≤ 10 ^ 59 ∧ PenMost p c ms (1 + 5 * i + 3) H4, ?_, fun σ' H4 hM => ?_⟩
      · refine ⟨_, rfl, rfl, _, rfl, ?_⟩
        by_cases hz : un = 0
        · refine iteNS (congrArg V.int hz) ?_
          exact ⟨1, rfl, by decide, by decide, n3, pen3, g2, g3⟩
        · refine iteNT (ine hz) ?_
          exact ⟨_, rfl, un, rfl, hz, u2, n3, pen3, g2, g3⟩
      obtain ⟨b, rfl, hb, hb2, n4, pen4, g4, g5⟩ := hM
      -- some
      refine ⟨fun σ H5 => ∃ (l : Addr) (d : Int), σ = [some (.ref a), some (.ref p), some (.int (0 + (i : Nat))), some (.int far), some (.int up), some (.int b), some (.ref l), v7, v8, v9, v10] ∧ 0 ≤ d ∧ d < 900 ∧ l ≠ p ∧ H5 l = some (.lst ((TCM.some11 ++ [1 + d]).map V.int)) ∧ PenMost p c ms (1 + 5 * i + 4) H5, ?_, fun σ' H5 hM => ?_⟩
      · refine ⟨997, 997, rfl, rfl, .inl ⟨by decide, by decide⟩, 2, 19, rfl, rfl, ⟨by decide, by decide, by decide⟩, 30, 30, rfl, rfl, .inl ⟨by decide, by decide⟩, _, 7, rfl, rfl, .inr ⟨by decide, by decide⟩, ?_⟩
        refine ⟨_, rfl, p, c, ms, n4, 900, rfl, pen4, g4, by omega, by decide, by decide, fun d n' H6 dd0 dd1 nn0 nn1 pen' sb => ?_⟩
        refine ⟨1, d, rfl, rfl, by show 12 ≤ sizeLine; decide, fun l hl => ?_⟩
        have hlp : l ≠ p := by
          obtain ⟨_, z, _⟩ := pen'
          exact (ne_of_none z hl).symm
        exact ⟨l, d, rfl, dd0, dd1, hlp, upd_same, n', pen'.same (same_upd hl), by omega, by omega⟩
      obtain ⟨ls, ds, rfl, ds0, ds1, hlp, els, n5, pen5, g6, g7⟩ := hM
      -- r
      refine ⟨fun σ H6 => ∃ r : Int, σ = [some (.ref a), some (.ref p), some (.int (0 + (i : Nat))), some (.int far), some (.int up), some (.int b), some (.ref ls), some (.int r), v8, v9, v10] ∧ TCM.Ok r ∧ PenMost p c ms (1 + 5 * i + 5) H6, ?_, fun σ' H6 hM => ?_⟩
      · refine ⟨_, rfl, _, rfl, p, c, ms, n5, 12, rfl, pen5, g6, by omega, by decide, by decide, fun d n' H7 dd0 dd1 nn0 nn1 pen' sb => ?_⟩
        obtain ⟨v, hv, ev⟩ := pick (TCM.some11 ++ [1 + ds]) dd0 dd1
        have hR : TCM.Ok v := by
          rcases List.mem_append.mp hv with z | z
          · exact TCM.ok_11 z
          · rw [List.mem_singleton.mp z]
            exact TCM.ok_900 ds0 ds1
        exact ⟨ls, _, d, _, rfl, rfl, SqL.of (sb ls _ hlp els), ev, v, rfl, hR, n', pen', by omega, by omega⟩
      obtain ⟨r, rfl, hR, n6, pen6, g8, g9⟩ := hM
      have hz := pow1000 hb2
      have hz1 : (1 : Int).natAbs < 2 ^ 1000 := pow1000 (by decide)
      have pm6 : PenMost p c ms (1 + 5 * ((i + 1 : Nat) : Int)) H6 := ⟨n6, pen6, g8, by omega⟩
      -- told
      refine ⟨fun σ H7 => ∃ l x1 x2 : Addr, σ = [some (.ref a), some (.ref p), some (.int (0 + (i : Nat))), some (.int far), some (.int up), some (.int b), some (.ref ls), some (.int r), some (.ref l), v9, v10] ∧ Told C up b r l x1 x2 H7 ∧ PenMost p c ms (1 + 5 * ((i + 1 : Nat) : Int)) H7, ?_, fun σ' H7 hM => ?_⟩
      · refine ⟨_, rfl, _, rfl, _, rfl, rfl, rfl, up, b, r, rfl, hb, hz, hR, fun x1 H8 sm8 hx1 e1 => ?_⟩
        refine ⟨_, rfl, _, rfl, _, rfl, rfl, rfl, up, b, r, rfl, hb, hz, hR, fun x2 H9 sm9 hx2 e2 => ?_⟩
        refine ⟨by show 2 ≤ sizeLine; decide, fun l hl => ?_⟩
        have sml := same_upd (o := .lst [.ref x1, .ref x2]) hl
        exact ⟨l, x1, x2, rfl, ⟨upd_same, (e1.same sm9).same sml, e2.same sml⟩, pm6.same ((sm8.trans sm9).trans sml)⟩
      obtain ⟨l, x1, x2, rfl, told, pm7⟩ := hM
      have exdue : ∀ {t b r : Int}, b ≠ 0 → TCM.Ok r → PyData.eqv (toD (TCM.ex t b r)) (toD (TCM.due t b r)) = true := fun {t b r} h1 h2 => by
        rw [toD_eqv, TCM.ex_due h1 h2]
        exact decide_eq_true rfl
      -- for number in told
      refine ⟨fun σ H8 => ∃ v9, σ = [some (.ref a), some (.ref p), some (.int (0 + (i : Nat))), some (.int far), some (.int up), some (.int b), some (.ref ls), some (.int r), some (.ref l), v9, v10] ∧ Told C up b r l x1 x2 H8 ∧ PenMost p c ms (1 + 5 * ((i + 1 : Nat) : Int)) H8, ?_, fun σ' H8 hM => ?_⟩
      · refine ⟨_, rfl, l, rfl, ⟨_, SqL.of told.li⟩, for_list (xs := [.ref x1, .ref x2]) (fun j σ H8 => ∃ v9, σ = [some (.ref a), some (.ref p), some (.int (0 + (i : Nat))), some (.int far), some (.int up), some (.int b), some (.ref ls), some (.int r), some (.ref l), v9, v10] ∧ Told C up b r l x1 x2 H8 ∧ PenMost p c ms (1 + 5 * ((i + 1 : Nat) : Int)) H8)
          ⟨v9, rfl, told, pm7⟩ (fun j σ H8 _ hP => ?_) (fun j x σ H8 hx hP => ?_) (fun σ H8 hP => hP)⟩
        · obtain ⟨_, _, t8, _⟩ := hP
          exact SqL.of t8.li
        · obtain ⟨w9, rfl, t8, pm8⟩ := hP
          obtain ⟨y, rfl, ⟨dy, py, hy, hpy⟩⟩ : ∃ y, V.ref y = x ∧ ExactAt C H8 y (TCM.ex up b r) := by
            match j, hx with
            | 0, hx => exact ⟨x1, Option.some.inj hx, t8.e1⟩
            | 1, hx => exact ⟨x2, Option.some.inj hx, t8.e2⟩
            | j + 2, hx => simp at hx
          refine ⟨_, rfl, _, _, _, _, true, rfl, .own C, T.ty hy, ?_, true, rfl, iteF ?_⟩
          · show (if ((Value.ref C) == (Value.ref C)) = true then some true else _) = some true
            rw [if_pos (by simp)]
          · refine ⟨_, rfl, y, C, dy, _, _, rfl, hy, T.cl, T.nP, rfl, _, rfl, _, rfl, _, rfl, up, b, r, rfl, hb, hz, hR, fun pd H9 sm9 hpd ed => ?_⟩
            refine ⟨_, _, (hpy.same sm9).dp, ed.dp, toD_shaped _, toD_shaped _, ?_⟩
            rw [exdue hb hR]
            exact ⟨_, rfl, iteF ⟨_, rfl, t8.same sm9, pm8.same sm9⟩⟩
      obtain ⟨w9, rfl, t8, pm8⟩ := hM
      have i0 : atI ([.ref x1, .ref x2] : List V) 0 = some (.ref x1) := atI_nat (j := 0) rfl
      have i1 : atI ([.ref x1, .ref x2] : List V) 1 = some (.ref x2) := atI_nat (j := 1) rfl
      -- told[0] != told[1] or exact(up).parts != due(up, 1, 1)
      refine ⟨fun σ H9 => σ = [some (.ref a), some (.ref p), some (.int (0 + (i : Nat))), some (.int far), some (.int up), some (.int b), some (.ref ls), some (.int r), some (.ref l), w9, v10] ∧ Told C up b r l x1 x2 H9 ∧ PenMost p c ms (1 + 5 * ((i + 1 : Nat) : Int)) H9, ?_, fun σ' H9 hM => ?_⟩
      · obtain ⟨dx1, p1, hx1, hp1⟩ := t8.e1
        obtain ⟨dx2, p2, hx2, hp2⟩ := t8.e2
        refine ⟨_, rfl, l, _, 0, _, rfl, rfl, SqL.of t8.li, i0, _, rfl, l, _, 1, _, rfl, rfl, SqL.of t8.li, i1, ?_⟩
        refine ⟨x1, dx1, _, _, rfl, hx1, T.ty hx2, notFirst_self, x1, _, .ref x2, rfl, t8.e1, .inl ⟨x2, _, rfl, t8.e2, true, ?_, _, rfl, iteF ?_⟩⟩
        · rw [decide_eq_true rfl]
        · refine ⟨_, rfl, up, 1, 1, rfl, by decide, hz1, TCM.ok_one, fun x3 H9 sm9 hx3 e3 => ?_⟩
          obtain ⟨dx3, p3, hx3', hp3⟩ := e3
          refine ⟨x3, C, dx3, _, _, rfl, hx3', T.cl, T.nP, rfl, _, rfl, up, 1, 1, rfl, by decide, hz1, TCM.ok_one, fun pd H10 sm10 hpd ed => ?_⟩
          refine ⟨_, _, (hp3.same sm10).dp, ed.dp, toD_shaped _, toD_shaped _, ?_⟩
          rw [exdue (by decide) TCM.ok_one]
          exact ⟨_, rfl, iteF ⟨rfl, t8.same (sm9.trans sm10), pm8.same (sm9.trans sm10)⟩⟩
      obtain ⟨rfl, t9, pm9⟩ := hM
      -- exact(up, root=r)
      refine ⟨fun σ H9 => σ = [some (.ref a), some (.ref p), some (.int (0 + (i : Nat))), some (.int far), some (.int up), some (.int b), some (.ref ls), some (.int r), some (.ref l), w9, v10] ∧ Told C up b r l x1 x2 H9 ∧ PenMost p c ms (1 + 5 * ((i + 1 : Nat) : Int)) H9, ?_, fun σ' H10 hM => ?_⟩
      · refine ⟨_, rfl, _, rfl, rfl, rfl, up, 1, r, rfl, by decide, hz1, hR, fun x3 H9 sm9 hx3 e3 => ?_⟩
        obtain ⟨dx3, p3, hx3', hp3⟩ := e3
        refine ⟨x3, C, dx3, _, _, rfl, hx3', T.cl, T.nP, rfl, _, rfl, _, rfl, up, 1, r, rfl, by decide, hz1, hR, fun pd H10 sm10 hpd ed => ?_⟩
        refine ⟨_, _, (hp3.same sm10).dp, ed.dp, toD_shaped _, toD_shaped _, ?_⟩
        rw [exdue (by decide) hR]
        exact ⟨_, rfl, iteF ⟨rfl, t9.same (sm9.trans sm10), pm9.same (sm9.trans sm10)⟩⟩
      obtain ⟨rfl, t10, pm10⟩ := hM
      -- exact(up, bottom=under), exact(up) == exact(up + 1)
      refine ⟨fun σ H9 => σ = [some (.ref a), some (.ref p), some (.int (0 + (i : Nat))), some (.int far), some (.int up), some (.int b), some (.ref ls), some (.int r), some (.ref l), w9, v10] ∧ Told C up b r l x1 x2 H9 ∧ PenMost p c ms (1 + 5 * ((i + 1 : Nat) : Int)) H9, ?_, fun σ' H11 hM => ?_⟩
      · refine ⟨_, rfl, _, rfl, rfl, rfl, up, b, 1, rfl, hb, hz, TCM.ok_one, fun x3 H9 sm9 hx3 e3 => ?_⟩
        obtain ⟨dx3, p3, hx3', hp3⟩ := e3
        refine ⟨x3, C, dx3, _, _, rfl, hx3', T.cl, T.nP, rfl, _, rfl, _, rfl, up, b, 1, rfl, hb, hz, TCM.ok_one, fun pd H10 sm10 hpd ed => ?_⟩
        refine ⟨_, _, (hp3.same sm10).dp, ed.dp, toD_shaped _, toD_shaped _, ?_⟩
        rw [exdue hb TCM.ok_one]
        refine ⟨_, rfl, iteF ?_⟩
        refine ⟨_, rfl, up, 1, 1, rfl, by decide, hz1, TCM.ok_one, fun x4 H11 sm11 hx4 e4 => ?_⟩
        refine ⟨_, rfl, up, 1, rfl, rfl, up + 1, 1, 1, rfl, by decide, hz1, TCM.ok_one, fun x5 H12 sm12 hx5 e5 => ?_⟩
        have e4' := e4.same sm12
        obtain ⟨dx4, p4, hx4', hp4⟩ := id e4'
        obtain ⟨dx5, p5, hx5', hp5⟩ := id e5
        refine ⟨x4, dx4, _, _, rfl, hx4', T.ty hx5', notFirst_self, x4, _, .ref x5, rfl, e4', .inl ⟨x5, _, rfl, e5, false, ?_, _, rfl, iteF ?_⟩⟩
        · rw [decide_eq_false (TCM.ex_succ up)]
        · have sm := ((sm9.trans sm10).trans sm11).trans sm12
          exact ⟨rfl, t10.same sm, pm10.same sm⟩
      obtain ⟨rfl, t11, pm11⟩ := hM
      -- it equals nothing else
      obtain ⟨dx1, p1, hx1, hp1⟩ := id t11.e1
      refine ⟨_, rfl, _, rfl, l, _, 0, _, rfl, rfl, SqL.of t11.li, i0, x1, dx1, _, rfl, hx1, x1, _, rfl, t11.e1, bd_ex (by omega) hb hb2 hR, fun z H12 sm12 => ⟨z, rfl, ?_⟩⟩
      have t12 := t11.same sm12
      have hx1' := sm12 _ _ hx1
      refine ⟨_, rfl, l, _, 0, _, rfl, rfl, SqL.of t12.li, i0, x1, C, dx1, _, _, rfl, hx1', T.cl, T.nP, rfl, ?_⟩
      refine ⟨_, rfl, l, _, 0, _, rfl, rfl, SqL.of t12.li, i0, by show 1 ≤ sizeLine; decide, fun l2 hl2 => ?_⟩
      have sm13 := same_upd (o := .lst [.ref x1]) hl2
      refine ⟨by show 7 ≤ sizeLine; decide, fun l3 hl3 => ?_⟩
      have sm14 := same_upd (o := .lst [.int up, .non, .str z, .ref p1, .ref l2, .int 0, .bl true]) hl3
      have t14 := (t12.same sm13).same sm14
      have pm14 := ((pm11.same sm12).same sm13).same sm14
      have h14l2 := sm14 _ _ (upd_same (H := H12) (a := l2) (o := .lst [.ref x1]))
      have hp14 := ((hp1.same sm12).same sm13).same sm14
      have hl3' : (upd (upd H12 l2 (.lst [.ref x1])) l3 (.lst [.int up, .non, .str z, .ref p1, .ref l2, .int 0, .bl true])) l3 = some (.lst [.int up, .non, .str z, .ref p1, .ref l2, .int 0, .bl true]) := upd_same
      generalize upd (upd H12 l2 (.lst [.ref x1])) l3 (.lst [.int up, .non, .str z, .ref p1, .ref l2, .int 0, .bl true]) = H14 at t14 pm14 h14l2 hp14 hl3' ⊢
      obtain ⟨dx4, p4, hx4, hp4⟩ := id t14.e1
      refine ⟨l3, rfl, ⟨_, SqL.of hl3'⟩, for_list (xs := [.int up, .non, .str z, .ref p1, .ref l2, .int 0, .bl true]) (fun j σ H' => ∃ v10, σ = [some (.ref a), some (.ref p), some (.int (0 + (i : Nat))), some (.int far), some (.int up), some (.int b), some (.ref ls), some (.int r), some (.ref l), w9, v10] ∧ H14 = H')
        ⟨v10, rfl, rfl⟩ (fun j σ H' _ hP => ?_) (fun j x σ H' hx hP => ?_) (fun σ H' hP => ?_)⟩
      · obtain ⟨_, _, rfl⟩ := hP
        exact SqL.of hl3'
      · obtain ⟨w10, rfl, rfl⟩ := hP
        obtain ⟨t, ht, ty⟩ : ∃ t, t ∈ others ∧ TyX K H14 x (.type t) := by
          match j, hx with
          | 0, hx => exact ⟨"int", by decide, (Option.some.inj hx) ▸ .base (.int _)⟩
          | 1, hx => exact ⟨"NoneType", by decide, (Option.some.inj hx) ▸ .base .non⟩
          | 2, hx => exact ⟨"str", by decide, (Option.some.inj hx) ▸ .base (.str _)⟩
          | 3, hx =>
            obtain ⟨zs, ez⟩ := hp14.tup
            exact ⟨"tuple", by decide, (Option.some.inj hx) ▸ .base (.tup ez)⟩
          | 4, hx => exact ⟨"list", by decide, (Option.some.inj hx) ▸ .base (.lst h14l2)⟩
          | 5, hx => exact ⟨"int", by decide, (Option.some.inj hx) ▸ .base (.int _)⟩
          | 6, hx => exact ⟨"bool", by decide, (Option.some.inj hx) ▸ .base (.bl _)⟩
          | j + 7, hx => simp at hx
        refine ⟨_, rfl, l, _, 0, _, rfl, rfl, SqL.of t14.li, i0, _, rfl, x1, dx4, _, .type t, rfl, hx4, ty, notFirst_of T ht, x1, _, x, rfl, t14.e1, .inr ⟨.type t, ty, (T.su t ht).2, false, rfl, _, rfl, iteF ⟨_, rfl, rfl⟩⟩⟩
      · obtain ⟨w10, rfl, rfl⟩ := hP
        exact ⟨_, _, _, _, _, _, _, _, _, rfl, pm14⟩
    · obtain ⟨v2, v3, v4, v5, v6, v7, v8, v9, v10, rfl, _⟩ := hP
      exact q _
end
end TC
namespace TC
open PySem PySem.Spec PyProof.Rows L2 TCA
theorem facts {P : Program} {w : World} {K : PySem.W.Frag} {h : Heap} {mg : Str → Option Value} {f : Addr} (X : K.In h) (G : h.Ns mainGlobals mg) (hfa : mg ("law" : Str) = some (.ref f)) (c : He.SaysD fa fn K) (ex : exB K = true) :
    ∃ fd : FuncData, (∀ (s : Shared) (v : Value), BindsTo s fd ⟨[v], []⟩ [("_law_script", v)]) ∧ ∀ base : Heap, K.In base → base.Ns mainGlobals mg → FnOk P w K mg base CX0 7 f fd ["_law_script"] (spLaw K) := by
  obtain ⟨fdW, FW⟩ := c.def_ 0 (d := dd "is_whole" sWhole) rfl
  obtain ⟨fdSh, FSh⟩ := c.def_ 1 (d := dd "shared" sShared) rfl
  obtain ⟨fdLo, FLo⟩ := c.def_ 2 (d := dd "in_lowest" sLowest) rfl
  obtain ⟨fdSq, FSq⟩ := c.def_ 3 (d := dd "squares_out" sSquares) rfl
  obtain ⟨fdFi, FFi⟩ := c.def_ 4 (d := dd "figures" sFigures) rfl
  obtain ⟨fdI, FI⟩ := c.def_ 5 (d := dm "__init__" "Exact.__init__" sInit) rfl
  obtain ⟨fdQ, FQ⟩ := c.def_ 6 (d := dm "__eq__" "Exact.__eq__" sEq) rfl
  obtain ⟨fdS, FS⟩ := c.def_ 7 (d := dm "__str__" "Exact.__str__" sStr) rfl
  obtain ⟨fdE, FE⟩ := c.def_ 8 (d := dExact) rfl
  obtain ⟨fdLw, FLw⟩ := c.def_ 9 (d := dd "lowered" sLowered) rfl
  obtain ⟨fdTo, FTo⟩ := c.def_ 10 (d := dd "text_of" sTextOf) rfl
  obtain ⟨fdTp, FTp⟩ := c.def_ 11 (d := dd "text_of_part" sTextPart) rfl
  obtain ⟨fdP, FP⟩ := c.def_ 12 (d := dd "_law_pen" sPen) rfl
  obtain ⟨fdD, FD⟩ := c.def_ 13 (d := dd "_law_draw" sDraw) rfl
  obtain ⟨fdL, FL⟩ := c.def_ 14 (d := dd "_law_low" sLow) rfl
  obtain ⟨fdFr, FFr⟩ := c.def_ 15 (d := dd "_law_free" sFree) rfl
  obtain ⟨fdU, FU⟩ := c.def_ 16 (d := dd "_law_parts_due" sDue) rfl
  obtain ⟨fd, FLaw⟩ := c.def_ 17 (d := dd "law" sLaw) rfl
  have glo : ∀ (i : Nat) (x : Str), TC.fa[i]? = some (.glo x) → mg x = some (.ref (He.ga K x)) := fun i x e => He.glo_ok X G (c.fact i (f := .glo x) e)
  have free : ∀ (i : Nat) (x : Str), TC.fa[i]? = some (.free x) → mg x = none := fun i x e => He.free_ok X G (c.fact i (f := .free x) e)
  obtain ⟨tB, gB⟩ := He.int_ok X G (c.fact 17 (f := .int "BLOCK" (10 ^ 64)) rfl)
  obtain ⟨tH, gH⟩ := He.int_ok X G (c.fact 18 (f := .int "HIGHEST_ROOT" 1000000) rfl)
  obtain ⟨xP, ex⟩ := He.ba ex
  obtain ⟨xN, ex⟩ := He.ba ex
  obtain ⟨xC, ex⟩ := He.ba ex
  obtain ⟨xG, ex⟩ := He.ba ex
  obtain ⟨xT, ex⟩ := He.ba ex
  obtain ⟨xM, xO⟩ := He.ba ex
  have T : TxtE K mg (He.ga K "Exact") (He.ma K (He.ga K "Exact") "__init__") (He.ma K (He.ga K "Exact") "__eq__") (He.ma K (He.ga K "Exact") "__str__") := {
    cl := He.cls_ok (c.fact 19 (f := .cls "Exact") rfl)
    nP := He.noat_ok (c.fact 20 (f := .noat "Exact" "parts") rfl)
    mkr := He.mkr_ok (c.fact 21 (f := .mkr "Exact") rfl)
    mq := He.meth_ok (c.fact 22 (f := .meth "Exact" "__eq__") rfl)
    ms := He.meth_ok (c.fact 23 (f := .meth "Exact" "__str__") rfl)
    mgC := glo 5 "Exact" rfl
    ne := He.eqO_ok xN
    ca := He.eqO_ok xC
    cn := He.eqO_ok xG
    ct := of_decide_eq_true xT
    cm := of_decide_eq_true xM
    su := fun t ht => by
      have z := List.all_eq_true.mp xO t ht
      obtain ⟨z1, z2⟩ := He.ba z
      exact ⟨of_decide_eq_true z1, of_decide_eq_true z2⟩ }
  have hT : ∀ H, SqT K H (He.ga K "PRIMES") (TCM.primes.map V.int) := fun H => by
    have z := He.tupB_ok xP H
    rw [List.map_map] at z
    exact z
  have e := hfa.symm.trans (glo 15 "law" rfl)
  cases e
  have b1 := FunD.bindsN (ps := ["thing"]) FW fun _ _ _ _ _ _ us hl => match us, hl with | [_], _ => rfl
  have b2 := FunD.bindsN (ps := ["one", "other"]) FSh fun _ _ _ _ _ _ us hl => match us, hl with | [_, _], _ => rfl
  have b3 := FunD.bindsN (ps := ["top", "bottom"]) FLo fun _ _ _ _ _ _ us hl => match us, hl with | [_, _], _ => rfl
  have b4 := FunD.bindsN (ps := ["number"]) FSq fun _ _ _ _ _ _ us hl => match us, hl with | [_], _ => rfl
  have b5 := FunD.bindsN (ps := ["number"]) FFi fun _ _ _ _ _ _ us hl => match us, hl with | [_], _ => rfl
  have b6 := FunD.bindsN (ps := ["self", "parts"]) FI fun _ _ _ _ _ _ us hl => match us, hl with | [_, _], _ => rfl
  have b7 := FunD.bindsN (ps := ["self", "other"]) FQ fun _ _ _ _ _ _ us hl => match us, hl with | [_, _], _ => rfl
  have b8 := FunD.bindsN (ps := ["self"]) FS fun _ _ _ _ _ _ us hl => match us, hl with | [_], _ => rfl
  have b9 := FunD.bindsN (ps := ["tops", "bottom"]) FLw fun _ _ _ _ _ _ us hl => match us, hl with | [_, _], _ => rfl
  have b10 := FunD.bindsN (ps := ["parts"]) FTo fun _ _ _ _ _ _ us hl => match us, hl with | [_], _ => rfl
  have b11 := FunD.bindsN (ps := ["root", "top", "bottom"]) FTp fun _ _ _ _ _ _ us hl => match us, hl with | [_, _, _], _ => rfl
  have b12 := FunD.bindsN (ps := ["_law_script"]) FP fun _ _ _ _ _ _ us hl => match us, hl with | [_], _ => rfl
  have b13 := FunD.bindsN (ps := ["_law_pen_here", "_law_many"]) FD fun _ _ _ _ _ _ us hl => match us, hl with | [_, _], _ => rfl
  have b14 := FunD.bindsN (ps := ["_law_up", "_law_under"]) FL fun _ _ _ _ _ _ us hl => match us, hl with | [_, _], _ => rfl
  have b15 := FunD.bindsN (ps := ["_law_number"]) FFr fun _ _ _ _ _ _ us hl => match us, hl with | [_], _ => rfl
  have b16 := FunD.bindsN (ps := ["_law_up", "_law_under", "_law_r"]) FU fun _ _ _ _ _ _ us hl => match us, hl with | [_, _, _], _ => rfl
  have b := FunD.bindsA (ps := ["_law_script"]) FLaw fun _ _ _ _ _ _ us hl => match us, hl with | [_], _ => rfl
  refine ⟨fd, fun s v => b s [v] rfl, fun base _ _ => ?_⟩
  have gAbs := free 27 "abs" rfl
  have gIs := free 24 "isinstance" rfl
  have gLen := free 31 "len" rfl
  have gStr := free 33 "str" rfl
  have gList := free 29 "list" rfl
  have GW : FnOk P w K mg base CX0 1 _ fdW ["thing"] spWhole := ok_whole FW gIs (free 25 "int" rfl) (free 26 "bool" rfl)
  have GSh : FnOk P w K mg base CX0 1 _ fdSh ["one", "other"] spShared := ok_shared FSh gAbs
  have GLo : FnOk P w K mg base CX0 2 _ fdLo ["top", "bottom"] spLowest := ok_lowest FLo GSh b2 FSh.kp (glo 1 "shared" rfl)
  have GSq : FnOk P w K mg base CX0 1 _ fdSq ["number"] spSquares := ok_squares FSq (glo 16 "PRIMES" rfl) hT
  have GFi : FnOk P w K mg base CX0 1 _ fdFi ["number"] spFigures := ok_figures FFi gB gStr
  have GI : FnOk P w K mg base CX0 1 _ fdI ["self", "parts"] (spInit (He.ga K "Exact")) := ok_init FI T
  have GQ : FnOk P w K mg base CX0 1 _ fdQ ["self", "other"] (spEqE K (He.ga K "Exact")) := ok_eq FQ T gIs
  have GTp : FnOk P w K mg base CX0 2 _ fdTp ["root", "top", "bottom"] spPart := ok_part FTp GFi b5 FFi.kp (glo 4 "figures" rfl)
  have GTo : FnOk P w K mg base CX0 3 _ fdTo ["parts"] spTextOf := ok_textOf FTo GTp b11 FTp.kp (glo 9 "text_of_part" rfl) gLen (free 32 "enumerate" rfl) gAbs
  have GS : FnOk P w K mg base CX0 4 _ fdS ["self"] (spStr (He.ga K "Exact")) := ok_str FS T GTo b10 FTo.kp (glo 8 "text_of" rfl) gStr
  have GLw : FnOk P w K mg base CX0 3 _ fdLw ["tops", "bottom"] (spLowered (He.ga K "Exact")) := ok_lowered FLw T GLo b3 FLo.kp (glo 2 "in_lowest" rfl) GI b6 (free 28 "sorted" rfl) gList (free 30 "tuple" rfl)
  have GE : FnOk P w K mg base CX0 4 _ fdE psE (spExact (He.ga K "Exact")) := ok_exact FE GW b1 FW.kp (glo 0 "is_whole" rfl) GSq b4 FSq.kp (glo 3 "squares_out" rfl) GLw b9 FLw.kp (glo 7 "lowered" rfl) gH
  have GP : FnOk P w K mg base CX0 1 _ fdP ["_law_script"] (spPen K) := ok_pen FP gList
  have GD : FnOk P w K mg base CX0 1 _ fdD ["_law_pen_here", "_law_many"] spDraw := ok_draw FD gLen
  have GL : FnOk P w K mg base CX0 1 _ fdL ["_law_up", "_law_under"] spLowL := ok_lowL FL gAbs
  have GFr : FnOk P w K mg base CX0 1 _ fdFr ["_law_number"] spFree := ok_free FFr
  have GU : FnOk P w K mg base CX0 2 _ fdU ["_law_up", "_law_under", "_law_r"] spDue := ok_due FU GFr b15 FFr.kp (glo 13 "_law_free" rfl) GL b14 FL.kp (glo 12 "_law_low" rfl)
  exact ok_law FLaw ⟨T, GQ, b7, GS, b8, FE, GE, glo 6 "exact" rfl, GP, b12, FP.kp, glo 10 "_law_pen" rfl, GD, b13, FD.kp, glo 11 "_law_draw" rfl, GU, b16, FU.kp, glo 14 "_law_parts_due" rfl, gIs, free 34 "range" rfl, gStr⟩
end TC
open PySem PySem.W PySem.Calls PyProof.Rows
set_option maxHeartbeats 0 in
theorem PySem.Challenge.cw_turncouple_k01_numbers_made_holds : PySem.Challenge.rw_turncouple_k01_numbers_made.Holds := by
  w_on; o_law
  refine HandSHeadRun.head_any (r := OpenLaw.row PySem.Challenge.rw_turncouple_k01_numbers_made) (q := view (OpenLaw.row PySem.Challenge.rw_turncouple_k01_numbers_made).prog [26]) (H := TC.hk) (ob := TC.ob) (M := 2000) (loose := TC.loose) (d := HandSHeadRun.topDef (OpenLaw.row PySem.Challenge.rw_turncouple_k01_numbers_made).prog 26) (kwd := []) TC.ob_eq
    (by kernel_rfl) (fun s => by kernel_rfl) TC.run (by kernel_rfl) (by kernel_rfl) (by kernel_rfl) (by rfl) (by first | assumption | decide +kernel) (by decide +kernel) ⟨rfl, rfl, rfl, rfl, rfl, by decide +kernel⟩ ?hw ?hc
  case hw => w_witness2
  case hc =>
    refine L2.walk_ofE (l := PySem.Challenge.rw_turncouple_k01_numbers_made) (n := 63) (k := 7) (x := "_law_script") (CX := L2.CX0) rfl (by decide) (by kernel_rfl) ⟨rfl, by decide, by decide⟩ ?F (fun _ _ _ _ z => z)
    intro w mg fa h Y G hmg0
    obtain ⟨K, KX, c, ex⟩ := Y
    have hmg : mg ("law" : PySem.Str) = some (.ref fa) := by
      have e : (HandSHeadRun.topDef (OpenLaw.row PySem.Challenge.rw_turncouple_k01_numbers_made).prog 26).name = ("law" : PySem.Str) := by kernel_rfl
      rw [← e]
      exact hmg0
    obtain ⟨fd, hb, hF⟩ := TC.facts (P := (PySem.Challenge.rw_turncouple_k01_numbers_made).prog) (w := w) KX G hmg c ex
    exact ⟨K, fd, TC.spLaw K, KX, hb, fun H a ns hl _ hS => ⟨a, ns, rfl, hS, hl, fun _ => rfl⟩, hF⟩
