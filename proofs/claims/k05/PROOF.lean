import PyProof.Rows.All
import Wide.All
import OpenK.AllK
import Wide.FinOn
import HandS.ForMost
import HandS.ForExc
import HandS.Deep
import HandS.IsInst
import HandS.Gcd
import HandS.Rev
import HandS.TupSets
import HandS.SetKeys
import HandS.DictTup
import HandS.Style
import HandS.EndBits
import HandS.Wide
import HandS.TupLe
import HandS.CallLocal
import HandS.Codes
import HandS.More
import HandS.HotCalls
import HandS.ExcCtx
import HandS.ExcIs
import HandS.Conv
import PySem.Challenge.RW_pairbase_k05_refused
set_option maxRecDepth 100000
/-! pairs of whole numbers, figures by a base that is a pair: the plain mathematics -/
namespace Pb

abbrev P2 := Int × Int
def nm (b : P2) : Int := b.1 * b.1 + b.2 * b.2
def tm (p q : P2) : P2 := (p.1 * q.1 - p.2 * q.2, p.1 * q.2 + p.2 * q.1)
/-- the loop of the inverse -/
def eu : Nat → Int → Int → Int → Int → Int
  | 0, _, _, f, _ => f
  | n + 1, l, s, f, o => if 0 < s then eu n s (l - l / s * s) o (f - l / s * o) else f
def inv (a m : Int) : Int := eu (m.toNat + 1) (a % m) m 1 0
def lsu (b : P2) : Int := b.2 * inv b.1 (nm b)
/-- the loop of the law's weight -/
def we : Nat → Int → Int → Int → Int → Int
  | 0, _, _, f, _ => f
  | n + 1, l, s, f, o => if l ≠ 1 ∧ 0 < s then we n s (l - l / s * s) o (f - l / s * o) else f
def wt (b : P2) : Int := (-b.1 * we ((nm b).toNat + 1) (b.2 % nm b) (nm b) 1 0) % nm b

def isB (b : P2) : Bool := decide (b.1.natAbs ≤ 30) && decide (b.2.natAbs ≤ 30) && (Nat.gcd b.1.natAbs b.2.natAbs == 1) && decide (2 ≤ nm b)

theorem eu_fuel : ∀ (k n m : Nat) (l s f o : Int), s.toNat < n → s.toNat < m → s.toNat ≤ k → 0 ≤ s → eu n l s f o = eu m l s f o := by
  intro k
  induction k with
  | zero =>
    intro n m l s f o h1 h2 h3 h4
    have hs : s = 0 := by omega
    subst hs
    cases n with
    | zero => omega
    | succ n => cases m with
      | zero => omega
      | succ m => simp [eu]
  | succ k ih =>
    intro n m l s f o h1 h2 h3 h4
    cases n with
    | zero => omega
    | succ n => cases m with
      | zero => omega
      | succ m =>
        by_cases hs : 0 < s
        · simp only [eu, hs, if_true]
          have e : l - l / s * s = l % s := by rw [Int.emod_def, Int.mul_comm]
          rw [e]
          have a1 := Int.emod_lt_of_pos l hs
          have a2 := Int.emod_nonneg l (show s ≠ 0 by omega)
          exact ih n m s (l % s) o _ (by omega) (by omega) (by omega) a2
        · simp [eu, hs]
theorem we_fuel : ∀ (k n m : Nat) (l s f o : Int), s.toNat < n → s.toNat < m → s.toNat ≤ k → 0 ≤ s → we n l s f o = we m l s f o := by
  intro k
  induction k with
  | zero =>
    intro n m l s f o h1 h2 h3 h4
    have hs : s = 0 := by omega
    subst hs
    cases n with
    | zero => omega
    | succ n => cases m with
      | zero => omega
      | succ m => simp [we]
  | succ k ih =>
    intro n m l s f o h1 h2 h3 h4
    cases n with
    | zero => omega
    | succ n => cases m with
      | zero => omega
      | succ m =>
        by_cases hs : l ≠ 1 ∧ 0 < s
        · have hs2 := hs.2
          simp only [we]
          rw [if_pos hs, if_pos hs]
          have e : l - l / s * s = l % s := by rw [Int.emod_def, Int.mul_comm]
          rw [e]
          have a1 := Int.emod_lt_of_pos l hs2
          have a2 := Int.emod_nonneg l (show s ≠ 0 by omega)
          exact ih n m s (l % s) o _ (by omega) (by omega) (by omega) a2
        · simp only [we]
          rw [if_neg hs, if_neg hs]

/-- what is found by looking at each base -/
def chk (b : P2) : Bool :=
  !isB b || (((b.1 * inv b.1 (nm b) - 1) % nm b == 0) && decide ((inv b.1 (nm b)).natAbs ≤ 2000) && (wt b == lsu b % nm b) && decide ((we ((nm b).toNat + 1) (b.2 % nm b) (nm b) 1 0).natAbs ≤ 2000))
theorem chk_all : ((List.range 61).all fun i => (List.range 61).all fun j => chk ((i : Int) - 30, (j : Int) - 30)) = true := by decide +kernel

theorem isB_iff {b : P2} : isB b = true ↔ b.1.natAbs ≤ 30 ∧ b.2.natAbs ≤ 30 ∧ Nat.gcd b.1.natAbs b.2.natAbs = 1 ∧ 2 ≤ nm b := by
  unfold isB
  simp only [Bool.and_eq_true, decide_eq_true_eq, beq_iff_eq, and_assoc]
theorem chk_of {b : P2} (h : isB b = true) : chk b = true := by
  obtain ⟨h1, h2, _, _⟩ := isB_iff.mp h
  have a := List.all_eq_true.mp chk_all (b.1 + 30).toNat (List.mem_range.mpr (by omega))
  have c := List.all_eq_true.mp a (b.2 + 30).toNat (List.mem_range.mpr (by omega))
  have e1 : (((b.1 + 30).toNat : Int) - 30) = b.1 := by omega
  have e2 : (((b.2 + 30).toNat : Int) - 30) = b.2 := by omega
  rw [e1, e2] at c
  exact c
structure Good (b : P2) : Prop where
  a30 : b.1.natAbs ≤ 30
  b30 : b.2.natAbs ≤ 30
  two : 2 ≤ nm b
  inv1 : (b.1 * inv b.1 (nm b) - 1) % nm b = 0
  invS : (inv b.1 (nm b)).natAbs ≤ 2000
  wtE : wt b = lsu b % nm b
  weS : (we ((nm b).toNat + 1) (b.2 % nm b) (nm b) 1 0).natAbs ≤ 2000
theorem good {b : P2} (h : isB b = true) : Good b := by
  obtain ⟨h1, h2, _, h4⟩ := isB_iff.mp h
  have c := chk_of h
  unfold chk at c
  rw [h] at c
  simp only [Bool.not_true, Bool.false_or, Bool.and_eq_true, decide_eq_true_eq, beq_iff_eq] at c
  exact ⟨h1, h2, h4, c.1.1.1, c.1.1.2, c.1.2, c.2⟩
theorem Good.le {b : P2} (g : Good b) : nm b ≤ 1800 := by
  have h1 := g.a30
  have h2 := g.b30
  have k1 : b.1 * b.1 ≤ 900 := by
    have : b.1.natAbs * b.1.natAbs ≤ 30 * 30 := Nat.mul_le_mul h1 h1
    have e : ((b.1.natAbs * b.1.natAbs : Nat) : Int) = b.1 * b.1 := Int.natAbs_mul_self
    omega
  have k2 : b.2 * b.2 ≤ 900 := by
    have : b.2.natAbs * b.2.natAbs ≤ 30 * 30 := Nat.mul_le_mul h2 h2
    have e : ((b.2.natAbs * b.2.natAbs : Nat) : Int) = b.2 * b.2 := Int.natAbs_mul_self
    omega
  unfold nm
  omega

/-! ### the step -/
def fig (b p : P2) : Int := (p.1 + p.2 * lsu b) % nm b
def nxt (b p : P2) : P2 :=
  (((p.1 - fig b p) * b.1 - p.2 * (-b.2)) / nm b, ((p.1 - fig b p) * (-b.2) + p.2 * b.1) / nm b)
theorem fig_lo {b p : P2} (g : Good b) : 0 ≤ fig b p := Int.emod_nonneg _ (by have := g.two; omega)
theorem fig_hi {b p : P2} (g : Good b) : fig b p < nm b := Int.emod_lt_of_pos _ (by have := g.two; omega)

theorem dvd_of_eq {n x k : Int} (h : x = n * k) : n ∣ x := ⟨k, h⟩
/-- what is left of the pair is the base times the next one -/
theorem step_eq {b p : P2} (g : Good b) : tm b (nxt b p) = (p.1 - fig b p, p.2) := by
  obtain ⟨x, y⟩ := p
  obtain ⟨a, c⟩ := b
  have h2 : (2 : Int) ≤ a * a + c * c := g.two
  have hi : (a * inv a (nm (a, c)) - 1) % nm (a, c) = 0 := g.inv1
  have hn : nm (a, c) = a * a + c * c := rfl
  unfold nxt fig lsu
  simp only [tm]
  rw [hn] at hi ⊢
  generalize inv a (a * a + c * c) = r at hi ⊢
  generalize hN : a * a + c * c = n at *
  obtain ⟨k, hk⟩ := Int.dvd_of_emod_eq_zero hi
  have hf := Int.emod_add_mul_ediv (x + y * (c * r)) n
  generalize (x + y * (c * r)) % n = f at hf ⊢
  generalize (x + y * (c * r)) / n = q at hf
  -- x - f = n q - y c r ; a r = 1 + n k
  have hx : x - f = n * q - y * (c * r) := by omega
  have har : a * r = 1 + n * k := by omega
  have d1 : (x - f) * a - y * (-c) = n * (q * a - y * c * k) := by
    have e : (n * q - y * (c * r)) * a - y * -c = n * (q * a) - y * c * (a * r) + y * c := by grind
    rw [hx, e, har]
    grind
  have d2 : (x - f) * (-c) + y * a = n * (-(q * c) + y * (r - a * k)) := by
    have e : (n * q - y * (c * r)) * -c + y * a = n * (-(q * c)) + y * (c * c * r + a) := by grind
    have e2 : c * c * r = n * r - a * (a * r) := by rw [← hN]; grind
    rw [hx, e, e2, har]
    grind
  rw [d1, d2, Int.mul_ediv_cancel_left _ (by omega), Int.mul_ediv_cancel_left _ (by omega)]
  refine Prod.ext ?_ ?_
  · show a * (q * a - y * c * k) - c * (-(q * c) + y * (r - a * k)) = x - f
    rw [hx, ← hN]
    grind
  · show a * (-(q * c) + y * (r - a * k)) + c * (q * a - y * c * k) = y
    have : a * (y * r) = y * (a * r) := by grind
    grind

/-- a figure and a pair that make the pair up are the step's own -/
theorem step_uniq {b p z : P2} {f : Int} (g : Good b) (h0 : 0 ≤ f) (h1 : f < nm b) (h : tm b z = (p.1 - f, p.2)) : f = fig b p ∧ z = nxt b p := by
  obtain ⟨x, y⟩ := p
  obtain ⟨a, c⟩ := b
  obtain ⟨u, v⟩ := z
  have h2 : (2 : Int) ≤ a * a + c * c := g.two
  have hi : (a * inv a (nm (a, c)) - 1) % nm (a, c) = 0 := g.inv1
  have hn : nm (a, c) = a * a + c * c := rfl
  have e1 : a * u - c * v = x - f := congrArg Prod.fst h
  have e2 : a * v + c * u = y := congrArg Prod.snd h
  have hf : f = fig (a, c) (x, y) := by
    unfold fig lsu
    show f = (x + y * (c * inv a (nm (a, c)))) % nm (a, c)
    rw [hn] at hi h1 ⊢
    generalize inv a (a * a + c * c) = r at hi ⊢
    obtain ⟨k, hk⟩ := Int.dvd_of_emod_eq_zero hi
    generalize hN : a * a + c * c = n at *
    have e : x + y * (c * r) = f + n * (u * r + k * c * v - a * u * k) := by
      have har : a * r = 1 + n * k := by omega
      have hx : x = f + a * u - c * v := by omega
      rw [hx, ← e2]
      have z : (a * v + c * u) * (c * r) = (a * r) * (c * v) + u * (n * r) - u * a * (a * r) := by rw [← hN]; grind
      rw [z, har]
      grind
    rw [e, Int.add_mul_emod_self_left, Int.emod_eq_of_lt h0 h1]
  refine ⟨hf, ?_⟩
  unfold nxt
  rw [← hf]
  show (u, v) = (((x - f) * a - y * (-c)) / (a * a + c * c), ((x - f) * (-c) + y * a) / (a * a + c * c))
  rw [← e1, ← e2]
  have d1 : (a * u - c * v) * a - (a * v + c * u) * (-c) = (a * a + c * c) * u := by grind
  have d2 : (a * u - c * v) * (-c) + (a * v + c * u) * a = (a * a + c * c) * v := by grind
  rw [d1, d2, Int.mul_ediv_cancel_left _ (by omega), Int.mul_ediv_cancel_left _ (by omega)]
/-- the law's own way to the figure -/
theorem fig_wt {b p : P2} (g : Good b) : (p.1 + wt b * p.2) % nm b = fig b p := by
  unfold fig
  rw [g.wtE, Int.add_emod, Int.mul_emod, Int.emod_emod_of_dvd _ (Int.dvd_refl _), ← Int.mul_emod, ← Int.add_emod, Int.mul_comm]
theorem nxt_zero {b : P2} (g : Good b) : fig b (0, 0) = 0 ∧ nxt b (0, 0) = (0, 0) := by
  have h := step_uniq (b := b) (p := (0, 0)) (z := (0, 0)) (f := 0) g (Int.le_refl 0) (by have := g.two; omega) (by unfold tm; simp)
  exact ⟨h.1.symm, h.2.symm⟩

/-! ### rows -/
def rd (b : P2) : List Int → P2
  | [] => (0, 0)
  | f :: r => ((tm b (rd b r)).1 + f, (tm b (rd b r)).2)
/-- the last figure isn't 0 -/
def lastOk (r : List Int) : Prop := ∀ f, r.getLast? = some f → f ≠ 0
def figsOk (b : P2) (r : List Int) : Prop := ∀ f ∈ r, 0 ≤ f ∧ f < nm b
def rowOk (b : P2) (r : List Int) : Prop := figsOk b r ∧ lastOk r
theorem rowOk.tail {b : P2} {f : Int} {r : List Int} (h : rowOk b (f :: r)) : rowOk b r := by
  refine ⟨fun z hz => h.1 z (List.mem_cons_of_mem _ hz), fun z hz => h.2 z ?_⟩
  cases r with
  | nil => cases hz
  | cons y r => rw [List.getLast?_cons_cons]; exact hz
theorem rd_step {b : P2} {f : Int} {r : List Int} (g : Good b) (h : figsOk b (f :: r)) : fig b (rd b (f :: r)) = f ∧ nxt b (rd b (f :: r)) = rd b r := by
  obtain ⟨h0, h1⟩ := h f List.mem_cons_self
  have q := step_uniq (b := b) (p := rd b (f :: r)) (z := rd b r) (f := f) g h0 h1 (by
    show tm b (rd b r) = ((tm b (rd b r)).1 + f - f, (tm b (rd b r)).2)
    refine Prod.ext ?_ rfl
    show (tm b (rd b r)).1 = (tm b (rd b r)).1 + f - f
    omega)
  exact ⟨q.1.symm, q.2.symm⟩
theorem rd_zero {b : P2} (g : Good b) : ∀ (r : List Int), rowOk b r → rd b r = (0, 0) → r = []
  | [], _, _ => rfl
  | f :: r, h, e => by
    obtain ⟨q1, q2⟩ := rd_step g h.1
    obtain ⟨z1, z2⟩ := nxt_zero g
    rw [e, z1] at q1
    rw [e, z2] at q2
    have ih := rd_zero g r h.tail q2.symm
    subst ih
    exact absurd q1.symm (h.2 f rfl)

/-! ### led on and on -/
def orb (b p : P2) : Nat → P2
  | 0 => p
  | n + 1 => nxt b (orb b p n)
def fg (b p : P2) (n : Nat) : Int := fig b (orb b p n)
def figs (b p : P2) (n : Nat) : List Int := (List.range n).map (fg b p)
def orbs (b p : P2) (m n : Nat) : List P2 := (List.range (n - m)).map fun i => orb b p (m + i)
theorem orb_add (b p : P2) (m : Nat) : ∀ n, orb b (orb b p m) n = orb b p (m + n)
  | 0 => rfl
  | n + 1 => by
    show nxt b (orb b (orb b p m) n) = nxt b (orb b p (m + n))
    rw [orb_add b p m n]
theorem orb_succ (b p : P2) (n : Nat) : orb b (nxt b p) n = orb b p (n + 1) := by
  have h := orb_add b p 1 n
  rw [Nat.add_comm n 1]
  exact h
theorem figs_succ (b p : P2) (n : Nat) : figs b p (n + 1) = fig b p :: figs b (nxt b p) n := by
  unfold figs
  rw [List.range_succ_eq_map, List.map_cons, List.map_map]
  congr 1
  refine List.map_congr_left fun i _ => ?_
  show fig b (orb b p (i + 1)) = fig b (orb b (nxt b p) i)
  rw [orb_succ]
theorem orb_zero {b p : P2} (g : Good b) {k : Nat} (h : orb b p k = (0, 0)) : ∀ n, orb b p (k + n) = (0, 0)
  | 0 => h
  | n + 1 => by
    show nxt b (orb b p (k + n)) = (0, 0)
    rw [orb_zero g h n, (nxt_zero g).2]
/-- the walk's end at (0, 0) -/
def Ends0 (b p : P2) (k : Nat) : Prop := orb b p k = (0, 0) ∧ ∀ i, i < k → orb b p i ≠ (0, 0)
theorem Ends0.next {b p : P2} {k : Nat} (h : Ends0 b p (k + 1)) : Ends0 b (nxt b p) k :=
  ⟨by rw [orb_succ]; exact h.1, fun i hi => by rw [orb_succ]; exact h.2 (i + 1) (by omega)⟩
theorem figs_rd {b : P2} (g : Good b) : ∀ (k : Nat) (p : P2), orb b p k = (0, 0) → rd b (figs b p k) = p
  | 0, p, h => h.symm
  | k + 1, p, h => by
    rw [figs_succ]
    have ih := figs_rd g k (nxt b p) (by rw [orb_succ]; exact h)
    show ((tm b (rd b (figs b (nxt b p) k))).1 + fig b p, (tm b (rd b (figs b (nxt b p) k))).2) = p
    rw [ih, step_eq g]
    refine Prod.ext ?_ rfl
    show p.1 - fig b p + fig b p = p.1
    omega
theorem figs_ok {b : P2} (g : Good b) (p : P2) (k : Nat) : figsOk b (figs b p k) := fun f hf => by
  obtain ⟨i, _, e⟩ := List.mem_map.mp hf
  rw [← e]
  exact ⟨fig_lo g, fig_hi g⟩
theorem figs_last {b : P2} (g : Good b) : ∀ (k : Nat) (p : P2), Ends0 b p k → lastOk (figs b p k)
  | 0, p, h => fun f hf => by cases hf
  | 1, p, h => fun f hf => by
    rw [figs_succ] at hf
    have e : fig b p = f := Option.some.inj hf
    intro z
    have s := step_eq (p := p) g
    have n0 : nxt b p = (0, 0) := h.1
    rw [n0, e, z] at s
    refine h.2 0 (by omega) ?_
    have s1 : (0 : Int) = p.1 - 0 := by
      have := congrArg Prod.fst s
      simpa [tm] using this
    have s2 : (0 : Int) = p.2 := by
      have := congrArg Prod.snd s
      simpa [tm] using this
    show p = (0, 0)
    exact Prod.ext (by show p.1 = 0; omega) (by show p.2 = 0; omega)
  | k + 2, p, h => fun f hf => by
    rw [figs_succ, figs_succ, List.getLast?_cons_cons, ← figs_succ] at hf
    exact figs_last g (k + 1) (nxt b p) h.next f hf
theorem figs_row {b p : P2} {k : Nat} (g : Good b) (h : Ends0 b p k) : rowOk b (figs b p k) := ⟨figs_ok g p k, figs_last g k p h⟩
/-- a row's pair is led to (0, 0) by that row -/
theorem row_ends {b : P2} (g : Good b) : ∀ (r : List Int), rowOk b r → Ends0 b (rd b r) r.length ∧ figs b (rd b r) r.length = r
  | [], _ => ⟨⟨rfl, fun i hi => absurd hi (Nat.not_lt_zero _)⟩, rfl⟩
  | f :: r, h => by
    obtain ⟨q1, q2⟩ := rd_step g h.1
    obtain ⟨⟨a1, a2⟩, a3⟩ := row_ends g r h.tail
    refine ⟨⟨?_, fun i hi => ?_⟩, ?_⟩
    · show orb b (rd b (f :: r)) (r.length + 1) = (0, 0)
      rw [← orb_succ, q2]
      exact a1
    · cases i with
      | zero =>
        intro e
        have := rd_zero g (f :: r) h e
        cases this
      | succ i =>
        rw [← orb_succ, q2]
        exact a2 i (by simpa using hi)
    · rw [List.length_cons, figs_succ, q1, q2, a3]
theorem Ends0.uniq {b p : P2} {k j : Nat} (h : Ends0 b p k) (h' : Ends0 b p j) : k = j := by
  rcases Nat.lt_trichotomy k j with c | c | c
  · exact absurd h.1 (h'.2 k c)
  · exact c
  · exact absurd h'.1 (h.2 j c)

/-! ### rounds -/
structure Cyc (b p : P2) (m n : Nat) : Prop where
  lt : m < n
  eq : orb b p n = orb b p m
  inj : ∀ i j, i < j → j < n → orb b p i ≠ orb b p j
theorem Cyc.uniq {b p : P2} {m n m' n' : Nat} (h : Cyc b p m n) (h' : Cyc b p m' n') : m = m' ∧ n = n' := by
  have e : n = n' := by
    rcases Nat.lt_trichotomy n n' with c | c | c
    · exact absurd h.eq.symm (h'.inj m n h.lt c)
    · exact c
    · exact absurd h'.eq.symm (h.inj m' n' h'.lt c)
  subst e
  refine ⟨?_, rfl⟩
  rcases Nat.lt_trichotomy m m' with c | c | c
  · exact absurd (h.eq.symm.trans h'.eq) (h.inj m m' c h'.lt)
  · exact c
  · exact absurd (h'.eq.symm.trans h.eq) (h.inj m' m c h.lt)
/-- some two alike: a first return -/
theorem cyc_of {b p : P2} : ∀ {n m : Nat}, m < n → orb b p n = orb b p m → ∃ m' n', n' ≤ n ∧ Cyc b p m' n' := by
  intro n
  induction n using Nat.strongRecOn with
  | ind n ih =>
    intro m hm he
    by_cases c : ∃ j, j < n ∧ ∃ i, i < j ∧ orb b p j = orb b p i
    · obtain ⟨j, hj, i, hi, e⟩ := c
      obtain ⟨m', n', h1, h2⟩ := ih j hj hi e
      exact ⟨m', n', by omega, h2⟩
    · exact ⟨m, n, Nat.le_refl _, hm, he, fun i j hij hj e => c ⟨j, hj, i, hij, e.symm⟩⟩
/-- what is led to (0, 0) has the round of (0, 0) alone -/
theorem Ends0.cyc {b p : P2} {k : Nat} (g : Good b) (h : Ends0 b p k) : Cyc b p k (k + 1) where
  lt := Nat.lt_succ_self k
  eq := by
    show nxt b (orb b p k) = orb b p k
    rw [h.1, (nxt_zero g).2]
  inj := fun i j hij hj e => by
    -- a return ahead of the end goes on for ever
    have key : ∀ t, orb b p (i + t) = orb b p (j + t) := by
      intro t
      rw [← orb_add, ← orb_add, e]
    have h1 := key (k - j)
    rw [show j + (k - j) = k by omega, h.1] at h1
    exact h.2 (i + (k - j)) (by omega) h1
theorem Cyc.period {b p : P2} {m n : Nat} (h : Cyc b p m n) : ∀ t, orb b p (n + t) = orb b p (m + t) := fun t => by
  rw [← orb_add, ← orb_add, h.eq]
theorem Cyc.far {b p : P2} {m n : Nat} (h : Cyc b p m n) : ∀ i, ∃ j, j < n ∧ orb b p i = orb b p j := by
  intro i
  induction i using Nat.strongRecOn with
  | ind i ih =>
    by_cases c : i < n
    · exact ⟨i, c, rfl⟩
    · obtain ⟨j, h1, h2⟩ := ih (m + (i - n)) (by have := h.lt; omega)
      refine ⟨j, h1, ?_⟩
      rw [← h2, ← h.period, show n + (i - n) = i by omega]
/-- a round with (0, 0) is that of a told pair -/
theorem Cyc.zero_iff {b p : P2} {m n : Nat} (g : Good b) (h : Cyc b p m n) : (0, 0) ∈ orbs b p m n ↔ ∃ k, Ends0 b p k := by
  constructor
  · intro hm
    obtain ⟨i, _, e⟩ := List.mem_map.mp hm
    have key : ∀ k, orb b p k = (0, 0) → ∃ j, Ends0 b p j := by
      intro k
      induction k using Nat.strongRecOn with
      | ind k ih =>
        intro hk
        by_cases c : ∃ j, j < k ∧ orb b p j = (0, 0)
        · obtain ⟨j, h1, h2⟩ := c
          exact ih j h1 h2
        · exact ⟨k, hk, fun i hi e => c ⟨i, hi, e⟩⟩
    exact key _ e
  · rintro ⟨k, hk⟩
    obtain ⟨e1, e2⟩ := h.uniq (hk.cyc g)
    subst e1
    subst e2
    refine List.mem_map.mpr ⟨0, List.mem_range.mpr (by omega), hk.1⟩
theorem Ends0.orbs {b p : P2} {k : Nat} (h : Ends0 b p k) : orbs b p k (k + 1) = [(0, 0)] := by
  unfold Pb.orbs
  rw [show k + 1 - k = 1 by omega]
  show [orb b p (k + 0)] = [(0, 0)]
  rw [Nat.add_zero, h.1]
theorem orbs_len (b p : P2) (m n : Nat) : (orbs b p m n).length = n - m := by
  unfold orbs
  rw [List.length_map, List.length_range]
theorem orbs_get {b p : P2} {m n i : Nat} (h : i < n - m) : (orbs b p m n)[i]? = some (orb b p (m + i)) := by
  unfold orbs
  rw [List.getElem?_map, List.getElem?_range h]
  rfl
theorem Cyc.nodup {b p : P2} {m n : Nat} (h : Cyc b p m n) : (orbs b p m n).Nodup := by
  unfold orbs
  rw [List.nodup_iff_pairwise_ne, List.pairwise_map]
  refine List.Pairwise.imp_of_mem (fun {i j} hi hj hij => ?_) (List.pairwise_lt_range (n := n - m))
  exact h.inj (m + i) (m + j) (by omega) (by have := List.mem_range.mp hj; omega)
end Pb
set_option maxRecDepth 100000
namespace Pb
/-! ### sizes -/
def qn (p : P2) : Int := p.1 * p.1 + p.2 * p.2
theorem qn_nonneg (p : P2) : 0 ≤ qn p := by
  have h1 : 0 ≤ p.1 * p.1 := by
    rcases Int.le_total 0 p.1 with h | h
    · exact Int.mul_nonneg h h
    · exact Int.mul_nonneg_of_nonpos_of_nonpos h h
  have h2 : 0 ≤ p.2 * p.2 := by
    rcases Int.le_total 0 p.2 with h | h
    · exact Int.mul_nonneg h h
    · exact Int.mul_nonneg_of_nonpos_of_nonpos h h
  unfold qn
  omega
theorem sq_nonneg (x : Int) : 0 ≤ x * x := by
  rcases Int.le_total 0 x with h | h
  · exact Int.mul_nonneg h h
  · exact Int.mul_nonneg_of_nonpos_of_nonpos h h
theorem qn_tm (b z : P2) : qn (tm b z) = nm b * qn z := by
  unfold qn tm nm
  grind
theorem qn_step {b p : P2} (g : Good b) : nm b * qn (nxt b p) = (p.1 - fig b p) * (p.1 - fig b p) + p.2 * p.2 := by
  rw [← qn_tm, step_eq g]
  rfl
/-- the step's bound -/
theorem qn_next {b p : P2} (g : Good b) : 4 * (nm b * qn (nxt b p)) ≤ 5 * qn p + 20 * (nm b * nm b) := by
  have h := qn_step (p := p) g
  have f0 := fig_lo (p := p) g
  have f1 := fig_hi (p := p) g
  have hq : qn p = p.1 * p.1 + p.2 * p.2 := rfl
  generalize fig b p = f at *
  generalize nm b = n at *
  rw [h, hq]
  have s1 := sq_nonneg (p.1 + 4 * f)
  have s2 := sq_nonneg p.2
  have ff : f * f ≤ n * n := Int.mul_le_mul (by omega) (by omega) f0 (by omega)
  have e1 : (p.1 + 4 * f) * (p.1 + 4 * f) = p.1 * p.1 + 8 * (p.1 * f) + 16 * (f * f) := by grind
  have e2 : (p.1 - f) * (p.1 - f) = p.1 * p.1 - 2 * (p.1 * f) + f * f := by grind
  omega
theorem qn_next2 {b p : P2} (g : Good b) : 8 * qn (nxt b p) ≤ 5 * qn p + 40 * nm b := by
  have h := qn_next (p := p) g
  have h2 := g.two
  have q0 := qn_nonneg p
  have q1 := qn_nonneg (nxt b p)
  -- 4 n q' <= 5 q + 20 n n ; n >= 2
  have hn : 0 < nm b := by omega
  generalize nm b = n at *
  generalize qn (nxt b p) = q' at *
  generalize qn p = q at *
  -- suppose 8 q' > 5 q + 40 n: then 4 n q' > n (5 q + 40 n) / 2 >= 5 q + 20 n n
  rcases Int.lt_or_le (5 * q + 40 * n) (8 * q') with c | c
  · exfalso
    have m1 : n * (5 * q + 40 * n + 1) ≤ n * (8 * q') := Int.mul_le_mul_of_nonneg_left (by omega) (by omega)
    have e1 : n * (5 * q + 40 * n + 1) = 5 * (n * q) + 40 * (n * n) + n := by grind
    have e2 : n * (8 * q') = 2 * (4 * (n * q')) := by grind
    have m2 : 2 * q ≤ n * q := Int.mul_le_mul_of_nonneg_right h2 q0
    omega
  · exact c
def Small (b p : P2) : Prop := qn p ≤ 5 * nm b + 50
theorem small_next {b p : P2} (g : Good b) (h : qn p ≤ 40 * nm b) : Small b (nxt b p) := by
  have k := qn_next (p := p) g
  have h2 := g.two
  unfold Small
  generalize nm b = n at *
  generalize qn (nxt b p) = q' at *
  generalize qn p = q at *
  rcases Int.lt_or_le (5 * n + 50) q' with c | c
  · exfalso
    have m1 : n * (5 * n + 51) ≤ n * q' := Int.mul_le_mul_of_nonneg_left (by omega) (by omega)
    have e1 : n * (5 * n + 51) = 5 * (n * n) + 51 * n := by grind
    omega
  · exact c
theorem small_stays {b p : P2} (g : Good b) (h : Small b p) : ∀ n, Small b (orb b p n)
  | 0 => h
  | n + 1 => by
    have ih := small_stays g h n
    have h2 := g.two
    have l := g.le
    by_cases c : qn (orb b p n) ≤ 40 * nm b
    · exact small_next g c
    · -- 5 n + 50 <= 40 n fails only for n <= 1
      unfold Small at ih
      omega
/-- larger ones fall -/
theorem falls {b : P2} (g : Good b) : ∀ (j : Nat) (p : P2), qn p ≤ 4 ^ j * (40 * nm b) → ∃ k, k ≤ 5 * j ∧ qn (orb b p k) ≤ 40 * nm b
  | 0, p, h => ⟨0, Nat.le_refl _, by
    have e : (4 : Int) ^ 0 * (40 * nm b) = 40 * nm b := by
      rw [Int.pow_zero, Int.one_mul]
    rw [e] at h
    exact h⟩
  | j + 1, p, h => by
    by_cases c : ∃ k, k ≤ 4 ∧ qn (orb b p k) ≤ 40 * nm b
    · obtain ⟨k, h1, h2⟩ := c
      exact ⟨k, by omega, h2⟩
    · have far : ∀ k, k ≤ 4 → 4 * qn (orb b p (k + 1)) ≤ 3 * qn (orb b p k) := fun k hk => by
        have z := qn_next2 (p := orb b p k) g
        have y : ¬ qn (orb b p k) ≤ 40 * nm b := fun q => c ⟨k, hk, q⟩
        show 4 * qn (nxt b (orb b p k)) ≤ 3 * qn (orb b p k)
        omega
      have f0 := far 0 (by omega)
      have f1 := far 1 (by omega)
      have f2 := far 2 (by omega)
      have f3 := far 3 (by omega)
      have f4 := far 4 (by omega)
      have e0 : orb b p 0 = p := rfl
      rw [e0] at f0
      have q5 := qn_nonneg p
      have e : (4 : Int) ^ (j + 1) * (40 * nm b) = 4 * (4 ^ j * (40 * nm b)) := by
        rw [Int.pow_succ]
        grind
      rw [e] at h
      have ih := falls g j (orb b p 5) (by
        generalize (4 : Int) ^ j * (40 * nm b) = B at *
        simp only [Nat.reduceAdd, Nat.zero_add] at f0 f1 f2 f3 f4
        omega)
      obtain ⟨k, h1, h2⟩ := ih
      rw [orb_add] at h2
      exact ⟨5 + k, by omega, h2⟩

/-! ### pigeons -/
theorem pigeon (f : Nat → Nat) (C : Nat) : ∀ M, C < M → (∀ i, i < M → f i < C) → ∃ i j, i < j ∧ j < M ∧ f i = f j := by
  induction C generalizing f with
  | zero =>
    intro M hM h
    exact absurd (h 0 hM) (Nat.not_lt_zero _)
  | succ C ih =>
    intro M hM h
    by_cases c : ∃ i j, i < j ∧ j < M ∧ f i = C ∧ f j = C
    · obtain ⟨i, j, h1, h2, h3, h4⟩ := c
      exact ⟨i, j, h1, h2, by rw [h3, h4]⟩
    · by_cases d : ∃ i, i < M ∧ f i = C
      · obtain ⟨i, hi, hf⟩ := d
        -- leave i out
        have ih2 := ih (fun k => if k < i then f k else f (k + 1)) (M - 1) (by omega) (fun k hk => by
          have one : ∀ t, t < M → t ≠ i → f t < C := fun t ht hne => by
            have z := h t ht
            have y : f t ≠ C := fun e => by
              rcases Nat.lt_or_gt_of_ne hne with q | q
              · exact c ⟨t, i, q, hi, e, hf⟩
              · exact c ⟨i, t, q, ht, hf, e⟩
            omega
          show (if k < i then f k else f (k + 1)) < C
          split
          · exact one k (by omega) (by omega)
          · exact one (k + 1) (by omega) (by omega))
        obtain ⟨a, b, h1, h2, h3⟩ := ih2
        refine ⟨if a < i then a else a + 1, if b < i then b else b + 1, ?_, ?_, ?_⟩
        · split <;> split <;> omega
        · split <;> omega
        · have e1 : ∀ t, (if t < i then f t else f (t + 1)) = f (if t < i then t else t + 1) := fun t => by split <;> rfl
          rw [e1, e1] at h3
          exact h3
      · exact ih f M (by omega) fun i hi => by
          have z := h i hi
          have y : f i ≠ C := fun e => d ⟨i, hi, e⟩
          omega

theorem sq_le {x c : Int} (h0 : 0 ≤ c) (h : x * x ≤ c * c) : -c ≤ x ∧ x ≤ c := by
  constructor
  · rcases Int.lt_or_le x (-c) with k | k
    · exfalso
      have m : (c + 1) * (c + 1) ≤ (-x) * (-x) := Int.mul_le_mul (by omega) (by omega) (by omega) (by omega)
      have e : (-x) * (-x) = x * x := by grind
      have e2 : (c + 1) * (c + 1) = c * c + 2 * c + 1 := by grind
      omega
    · exact k
  · rcases Int.lt_or_le c x with k | k
    · exfalso
      have m : (c + 1) * (c + 1) ≤ x * x := Int.mul_le_mul (by omega) (by omega) (by omega) (by omega)
      have e2 : (c + 1) * (c + 1) = c * c + 2 * c + 1 := by grind
      omega
    · exact k
/-- how far the numbers of a small pair go -/
def rad (b : P2) : Int := if nm b < 100 then 24 else 96
def rows (b : P2) : Int := if nm b < 100 then 30 else 3
theorem small_rad {b p : P2} (g : Good b) (h : Small b p) : (-rad b ≤ p.1 ∧ p.1 ≤ rad b) ∧ (-rad b ≤ p.2 ∧ p.2 ≤ rad b) := by
  have l := g.le
  have s1 := sq_nonneg p.1
  have s2 := sq_nonneg p.2
  unfold Small qn at h
  unfold rad
  split
  · exact ⟨sq_le (by omega) (by omega), sq_le (by omega) (by omega)⟩
  · exact ⟨sq_le (by omega) (by omega), sq_le (by omega) (by omega)⟩
/-- the code of what stays of a small pair: its second number, and the rest's place -/
def code (b p : P2) : Nat := ((p.2 + rad b) * rows b + (p.1 - fig b p + rad b + nm b) / nm b).toNat
theorem code_inj {b p z : P2} (g : Good b) (h : Small b p) (h' : Small b z) (e : code b p = code b z) : nxt b p = nxt b z := by
  obtain ⟨⟨a1, a2⟩, a3, a4⟩ := small_rad g h
  obtain ⟨⟨c1, c2⟩, c3, c4⟩ := small_rad g h'
  have f0 := fig_lo (p := p) g
  have f1 := fig_hi (p := p) g
  have k0 := fig_lo (p := z) g
  have k1 := fig_hi (p := z) g
  have h2 := g.two
  have hr : (rad b = 24 ∧ rows b = 30 ∧ nm b < 100) ∨ (rad b = 96 ∧ rows b = 3 ∧ 100 ≤ nm b) := by
    unfold rad rows
    split <;> omega
  have bd : ∀ w : Int, 0 ≤ w → w < 2 * rad b + nm b + 1 → 0 ≤ w / nm b ∧ w / nm b < rows b := fun w w0 w1 => by
    refine ⟨Int.ediv_nonneg w0 (by omega), ?_⟩
    refine Int.ediv_lt_of_lt_mul (by omega) ?_
    rcases hr with ⟨r1, r3, r2⟩ | ⟨r1, r3, r2⟩ <;> (rw [r1] at w1; rw [r3]; omega)
  have t1 := bd (p.1 - fig b p + rad b + nm b) (by omega) (by omega)
  have t2 := bd (z.1 - fig b z + rad b + nm b) (by omega) (by omega)
  unfold code at e
  have ey : p.2 = z.2 := by
    rcases hr with ⟨r1, r3, r2⟩ | ⟨r1, r3, r2⟩ <;> (rw [r1, r3] at e; rw [r1, r3] at t1 t2; omega)
  have et : (p.1 - fig b p + rad b + nm b) / nm b = (z.1 - fig b z + rad b + nm b) / nm b := by
    rcases hr with ⟨r1, r3, r2⟩ | ⟨r1, r3, r2⟩ <;> (rw [r1, r3] at e; rw [r1, r3] at t1 t2; rw [r1]; omega)
  -- the rests are alike modulo n, and have one place
  have m1 : ∃ u, p.1 - fig b p = nm b * u - p.2 * lsu b := by
    refine ⟨(p.1 + p.2 * lsu b) / nm b, ?_⟩
    have q := Int.emod_add_mul_ediv (p.1 + p.2 * lsu b) (nm b)
    unfold fig
    omega
  have m2 : ∃ u, z.1 - fig b z = nm b * u - z.2 * lsu b := by
    refine ⟨(z.1 + z.2 * lsu b) / nm b, ?_⟩
    have q := Int.emod_add_mul_ediv (z.1 + z.2 * lsu b) (nm b)
    unfold fig
    omega
  obtain ⟨u, hu⟩ := m1
  obtain ⟨v, hv⟩ := m2
  have ew : p.1 - fig b p = z.1 - fig b z := by
    have e1 : (p.1 - fig b p + rad b + nm b) / nm b = u + (rad b + nm b - p.2 * lsu b) / nm b := by
      rw [hu, show nm b * u - p.2 * lsu b + rad b + nm b = (rad b + nm b - p.2 * lsu b) + nm b * u by omega, Int.add_mul_ediv_left _ _ (by omega)]
      omega
    have e2 : (z.1 - fig b z + rad b + nm b) / nm b = v + (rad b + nm b - z.2 * lsu b) / nm b := by
      rw [hv, show nm b * v - z.2 * lsu b + rad b + nm b = (rad b + nm b - z.2 * lsu b) + nm b * v by omega, Int.add_mul_ediv_left _ _ (by omega)]
      omega
    rw [ey] at e1
    have euv : u = v := by omega
    rw [hu, hv, ey, euv]
  unfold nxt
  rw [ew, ey]
theorem code_lt {b p : P2} (g : Good b) (h : Small b p) : code b p < 1500 := by
  obtain ⟨⟨a1, a2⟩, a3, a4⟩ := small_rad g h
  have f0 := fig_lo (p := p) g
  have f1 := fig_hi (p := p) g
  have h2 := g.two
  have hr : (rad b = 24 ∧ rows b = 30 ∧ nm b < 100) ∨ (rad b = 96 ∧ rows b = 3 ∧ 100 ≤ nm b) := by
    unfold rad rows
    split <;> omega
  have bd : ∀ w : Int, 0 ≤ w → w < 2 * rad b + nm b + 1 → w / nm b < rows b := fun w w0 w1 => by
    refine Int.ediv_lt_of_lt_mul (by omega) ?_
    rcases hr with ⟨r1, r3, r2⟩ | ⟨r1, r3, r2⟩ <;> (rw [r1] at w1; rw [r3]; omega)
  have t1 := bd (p.1 - fig b p + rad b + nm b) (by omega) (by omega)
  unfold code
  rcases hr with ⟨r1, r3, r2⟩ | ⟨r1, r3, r2⟩ <;> (rw [r1] at t1 a1 a2 a3 a4 ⊢; rw [r3] at t1 ⊢; omega)

/-- the first return comes early enough -/
theorem cyc_small {b p : P2} (g : Good b) (h : Small b p) : ∃ m n, n ≤ 1502 ∧ Cyc b p m n := by
  obtain ⟨i, j, h1, h2, h3⟩ := pigeon (fun i => code b (orb b p i)) 1500 1501 (by omega) fun i _ => code_lt g (small_stays g h i)
  have e := code_inj g (small_stays g h i) (small_stays g h j) h3
  obtain ⟨m, n, h4, h5⟩ := cyc_of (b := b) (p := p) (m := i + 1) (n := j + 1) (by omega) e.symm
  exact ⟨m, n, by omega, h5⟩
theorem cyc_exists {b p : P2} (g : Good b) (j : Nat) (h : qn p ≤ 4 ^ j * (40 * nm b)) : ∃ m n, n ≤ 5 * j + 1503 ∧ Cyc b p m n := by
  obtain ⟨k, h1, h2⟩ := falls g j p h
  have hs : Small b (orb b p (k + 1)) := small_next g h2
  obtain ⟨m, n, h3, h4⟩ := cyc_small g hs
  obtain ⟨m', n', h5, h6⟩ := cyc_of (b := b) (p := p) (m := k + 1 + m) (n := k + 1 + n) (by have := h4.lt; omega) (by rw [← orb_add b p (k + 1) n, ← orb_add b p (k + 1) m]; exact h4.eq)
  exact ⟨m', n', by omega, h6⟩

/-! ### the bases that tell all -/
def tells (b : P2) : Prop := b.1 < 0 ∧ (b.2 = 1 ∨ b.2 = -1)
/-- what coefficients are worth -/
def ev (b : P2) : List Int → P2
  | [] => (0, 0)
  | c :: r => ((tm b (ev b r)).1 + c, (tm b (ev b r)).2)
def Rep (b p : P2) (S : Int) : Prop := ∃ cs : List Int, (∀ c ∈ cs, 0 ≤ c) ∧ cs.sum = S ∧ ev b cs = p
theorem sum_nonneg : ∀ cs : List Int, (∀ c ∈ cs, 0 ≤ c) → 0 ≤ cs.sum
  | [], _ => Int.le_refl 0
  | c :: r, h => by
    rw [List.sum_cons]
    have h1 := h c List.mem_cons_self
    have h2 := sum_nonneg r fun z hz => h z (List.mem_cons_of_mem _ hz)
    omega
theorem rep_nonneg {b p : P2} {S : Int} (h : Rep b p S) : 0 ≤ S := by
  obtain ⟨cs, h1, h2, _⟩ := h
  rw [← h2]
  exact sum_nonneg cs h1
theorem ev_add (b : P2) : ∀ (cs ds : List Int), ∃ es : List Int, ((∀ c ∈ cs, 0 ≤ c) → (∀ c ∈ ds, 0 ≤ c) → ∀ c ∈ es, 0 ≤ c) ∧ es.sum = cs.sum + ds.sum ∧ ev b es = ((ev b cs).1 + (ev b ds).1, (ev b cs).2 + (ev b ds).2)
  | [], ds => ⟨ds, fun _ h => h, by rw [List.sum_nil, Int.zero_add], by unfold ev; simp⟩
  | c :: r, [] => ⟨c :: r, fun h _ => h, by rw [List.sum_nil, Int.add_zero], by simp [ev]⟩
  | c :: r, d :: t => by
    obtain ⟨es, h1, h3, h2⟩ := ev_add b r t
    refine ⟨(c + d) :: es, fun hc hd z hz => ?_, ?_, ?_⟩
    · rcases List.mem_cons.mp hz with e | hz
      · have := hc c List.mem_cons_self
        have := hd d List.mem_cons_self
        omega
      · exact h1 (fun y hy => hc y (List.mem_cons_of_mem _ hy)) (fun y hy => hd y (List.mem_cons_of_mem _ hy)) z hz
    · rw [List.sum_cons, List.sum_cons, List.sum_cons, h3]
      omega
    · show ((tm b (ev b es)).1 + (c + d), (tm b (ev b es)).2) = _
      rw [h2]
      simp only [ev, tm]
      refine Prod.ext ?_ ?_
      · show _ = _
        dsimp only
        grind
      · show _ = _
        dsimp only
        grind
theorem rep_add {b p z : P2} {S T : Int} (h : Rep b p S) (h' : Rep b z T) : Rep b (p.1 + z.1, p.2 + z.2) (S + T) := by
  obtain ⟨cs, h1, h2, h3⟩ := h
  obtain ⟨ds, k1, k2, k3⟩ := h'
  obtain ⟨es, e1, e3, e2⟩ := ev_add b cs ds
  exact ⟨es, e1 h1 k1, by rw [e3, h2, k2], by rw [e2, h3, k3]⟩
theorem ev_scale (b : P2) (k : Int) : ∀ cs : List Int, (cs.map (k * ·)).sum = k * cs.sum ∧ ev b (cs.map (k * ·)) = (k * (ev b cs).1, k * (ev b cs).2)
  | [] => by simp [ev]
  | c :: r => by
    obtain ⟨i1, i2⟩ := ev_scale b k r
    refine ⟨?_, ?_⟩
    · rw [List.map_cons, List.sum_cons, List.sum_cons, i1]
      grind
    rw [List.map_cons]
    show ((tm b (ev b (r.map (k * ·)))).1 + k * c, (tm b (ev b (r.map (k * ·)))).2) = _
    rw [i2]
    simp only [ev, tm]
    refine Prod.ext ?_ ?_
    · show _ = _
      dsimp only
      grind
    · show _ = _
      dsimp only
      grind
theorem rep_scale {b p : P2} {S k : Int} (h0 : 0 ≤ k) (h : Rep b p S) : Rep b (k * p.1, k * p.2) (k * S) := by
  obtain ⟨cs, h1, h2, h3⟩ := h
  obtain ⟨i1, i2⟩ := ev_scale b k cs
  refine ⟨cs.map (k * ·), fun c hc => ?_, by rw [i1, h2], by rw [i2, h3]⟩
  obtain ⟨d, hd, e⟩ := List.mem_map.mp hc
  rw [← e]
  exact Int.mul_nonneg h0 (h1 d hd)
/-- each pair is made of coefficients from 0 on -/
theorem rep_all {b : P2} (t : tells b) (p : P2) : ∃ S, Rep b p S := by
  obtain ⟨a, c⟩ := b
  obtain ⟨ha, hc⟩ := t
  have ha : a < 0 := ha
  have hc : c = 1 ∨ c = -1 := hc
  have hcc : c * c = 1 := by rcases hc with e | e <;> rw [e] <;> rfl
  have sq := sq_nonneg a
  have cube : 0 ≤ -a * (a * a) := Int.mul_nonneg (by omega) sq
  have one : ∃ S, Rep (a, c) (1, 0) S := by
    refine ⟨1, [1], ?_, rfl, ?_⟩
    · intro z hz
      simp only [List.mem_cons, List.not_mem_nil, or_false] at hz
      omega
    · simp [ev, tm]
  have neg : ∃ S, Rep (a, c) (-1, 0) S := by
    refine ⟨_, [a * a, -2 * a, 1], ?_, rfl, ?_⟩
    · intro z hz
      simp only [List.mem_cons, List.not_mem_nil, or_false] at hz
      rcases hz with e | e | e <;> omega
    · simp only [ev, tm]
      refine Prod.ext ?_ ?_
      · show _ = _
        dsimp only
        grind
      · show _ = _
        dsimp only
        grind
  have up : ∃ S, Rep (a, c) (0, c) S := by
    refine ⟨_, [-a, 1], ?_, rfl, ?_⟩
    · intro z hz
      simp only [List.mem_cons, List.not_mem_nil, or_false] at hz
      rcases hz with e | e <;> omega
    · simp only [ev, tm]
      refine Prod.ext ?_ ?_
      · show _ = _
        dsimp only
        grind
      · show _ = _
        dsimp only
        grind
  have down : ∃ S, Rep (a, c) (0, -c) S := by
    refine ⟨_, [-a * (a * a), 3 * (a * a), -3 * a, 1], ?_, rfl, ?_⟩
    · intro z hz
      simp only [List.mem_cons, List.not_mem_nil, or_false] at hz
      rcases hz with e | e | e | e <;> omega
    · simp only [ev, tm]
      refine Prod.ext ?_ ?_
      · show _ = _
        dsimp only
        grind
      · show _ = _
        dsimp only
        grind
  have first : ∃ S, Rep (a, c) (p.1, 0) S := by
    rcases Int.le_total 0 p.1 with h | h
    · obtain ⟨S, hS⟩ := one
      have := rep_scale h hS
      simp only [Int.mul_one, Int.mul_zero] at this
      exact ⟨_, this⟩
    · obtain ⟨S, hS⟩ := neg
      have := rep_scale (k := -p.1) (by omega) hS
      simp only [Int.mul_zero] at this
      rw [show -p.1 * -1 = p.1 by omega] at this
      exact ⟨_, this⟩
  have second : ∃ S, Rep (a, c) (0, p.2) S := by
    rcases Int.le_total 0 (p.2 * c) with h | h
    · obtain ⟨S, hS⟩ := up
      have := rep_scale h hS
      simp only [Int.mul_zero] at this
      rw [Int.mul_assoc, hcc, Int.mul_one] at this
      exact ⟨_, this⟩
    · obtain ⟨S, hS⟩ := down
      have := rep_scale (k := -(p.2 * c)) (by omega) hS
      simp only [Int.mul_zero] at this
      rw [show -(p.2 * c) * -c = p.2 * (c * c) by grind, hcc, Int.mul_one] at this
      exact ⟨_, this⟩
  obtain ⟨S, hS⟩ := first
  obtain ⟨T, hT⟩ := second
  have := rep_add hS hT
  simp only [Int.add_zero, Int.zero_add] at this
  exact ⟨_, this⟩
theorem rep_next {b p : P2} {S : Int} (g : Good b) (t : tells b) (h : Rep b p S) : Rep b (nxt b p) (S - fig b p) := by
  obtain ⟨cs, h1, h2, h3⟩ := h
  cases cs with
  | nil =>
    have e : p = (0, 0) := h3.symm
    subst e
    obtain ⟨z1, z2⟩ := nxt_zero g
    rw [z1, z2, ← h2]
    exact ⟨[], fun c hc => absurd hc (List.not_mem_nil), rfl, rfl⟩
  | cons c0 r =>
    have hc0 := h1 c0 List.mem_cons_self
    have g2 := g.two
    have hN : nm b = b.1 * b.1 + 1 := by
      have : b.2 * b.2 = 1 := by rcases t.2 with e | e <;> rw [e] <;> rfl
      unfold nm
      omega
    have k0 : 0 ≤ c0 / nm b := Int.ediv_nonneg hc0 (by omega)
    have d0 : 0 ≤ c0 % nm b := Int.emod_nonneg _ (by omega)
    have d1 : c0 % nm b < nm b := Int.emod_lt_of_pos _ (by omega)
    have ed := Int.emod_add_mul_ediv c0 (nm b)
    have ta := t.1
    have carry : Rep b (ev b [(b.1 + 1) * (b.1 + 1), -2 * b.1 - 1, 1]) (nm b) := by
      refine ⟨_, ?_, ?_, rfl⟩
      · intro z hz
        have := sq_nonneg (b.1 + 1)
        simp only [List.mem_cons, List.not_mem_nil, or_false] at hz
        rcases hz with e | e | e <;> omega
      · rw [List.sum_cons, List.sum_cons, List.sum_cons, List.sum_nil, hN]
        grind
    have rest : Rep b (ev b r) r.sum := ⟨r, fun z hz => h1 z (List.mem_cons_of_mem _ hz), rfl, rfl⟩
    have new := rep_add rest (rep_scale k0 carry)
    have hb2 : b.2 * b.2 = 1 := by rcases t.2 with e | e <;> rw [e] <;> rfl
    have q := step_uniq (b := b) (p := p) (f := c0 % nm b) (z := ((ev b r).1 + c0 / nm b * (ev b [(b.1 + 1) * (b.1 + 1), -2 * b.1 - 1, 1]).1, (ev b r).2 + c0 / nm b * (ev b [(b.1 + 1) * (b.1 + 1), -2 * b.1 - 1, 1]).2)) g d0 d1 (by
      rw [← h3]
      generalize c0 / nm b = k at *
      generalize c0 % nm b = d at *
      show tm b _ = ((tm b (ev b r)).1 + c0 - d, (tm b (ev b r)).2)
      rw [← ed, hN]
      simp only [ev, tm]
      refine Prod.ext ?_ ?_
      · show _ = _
        dsimp only
        grind
      · show _ = _
        dsimp only
        grind)
    rw [← q.1, ← q.2]
    have es : r.sum + c0 / nm b * nm b = S - c0 % nm b := by
      rw [← h2, List.sum_cons]
      have := Int.mul_comm (nm b) (c0 / nm b)
      omega
    rw [← es]
    exact new
theorem tells_ends {b : P2} (g : Good b) (t : tells b) : ∀ (s q : Nat) (p : P2) (S : Int), Rep b p S → S.toNat ≤ s → (qn p).toNat ≤ q → ∃ k, orb b p k = (0, 0) := by
  intro s
  induction s using Nat.strongRecOn with
  | ind s ihs =>
    intro q
    induction q using Nat.strongRecOn with
    | ind q ihq =>
      intro p S hR hS hq
      by_cases c : p = (0, 0)
      · exact ⟨0, c⟩
      · have R' := rep_next g t hR
        have f0 := fig_lo (p := p) g
        have n0 := rep_nonneg hR
        have n1 := rep_nonneg R'
        by_cases d : fig b p = 0
        · have e := qn_step (p := p) g
          rw [d] at e
          have e' : nm b * qn (nxt b p) = qn p := by
            rw [e]
            unfold qn
            grind
          have q0 := qn_nonneg (nxt b p)
          have g2 := g.two
          have hp : 0 < qn p := by
            rcases Int.lt_or_le 0 (qn p) with h | h
            · exact h
            · exfalso
              have s1 := sq_nonneg p.1
              have s2 := sq_nonneg p.2
              unfold qn at h
              refine c (Prod.ext ?_ ?_)
              · have : p.1 * p.1 = 0 := by omega
                rcases Int.mul_eq_zero.mp this with z | z <;> exact z
              · have : p.2 * p.2 = 0 := by omega
                rcases Int.mul_eq_zero.mp this with z | z <;> exact z
          have lt : qn (nxt b p) < qn p := by
            have m : 2 * qn (nxt b p) ≤ nm b * qn (nxt b p) := Int.mul_le_mul_of_nonneg_right g2 q0
            omega
          obtain ⟨k, hk⟩ := ihq (qn (nxt b p)).toNat (by omega) (nxt b p) _ R' (by omega) (Nat.le_refl _)
          exact ⟨k + 1, by rw [← orb_succ]; exact hk⟩
        · obtain ⟨k, hk⟩ := ihs (S - fig b p).toNat (by omega) (qn (nxt b p)).toNat (nxt b p) _ R' (Nat.le_refl _) (Nat.le_refl _)
          exact ⟨k + 1, by rw [← orb_succ]; exact hk⟩
theorem ends_of {b p : P2} {k : Nat} (h : orb b p k = (0, 0)) : ∃ j, Ends0 b p j := by
  induction k using Nat.strongRecOn with
  | ind k ih =>
    by_cases c : ∃ j, j < k ∧ orb b p j = (0, 0)
    · obtain ⟨j, h1, h2⟩ := c
      exact ih j h1 h2
    · exact ⟨k, h, fun i hi e => c ⟨i, hi, e⟩⟩
/-- THE BASES THAT TELL ALL -/
theorem tells_all {b : P2} (g : Good b) (t : tells b) (p : P2) : ∃ k, Ends0 b p k := by
  obtain ⟨S, hS⟩ := rep_all t p
  obtain ⟨k, hk⟩ := tells_ends g t S.toNat (qn p).toNat p S hS (Nat.le_refl _) (Nat.le_refl _)
  exact ends_of hk
/-- the others don't tell (0, 1) -/
theorem rd_mult (b : P2) : ∀ r : List Int, ∃ k, (rd b r).2 = b.2 * k
  | [] => ⟨0, by simp [rd]⟩
  | f :: r => by
    obtain ⟨k, hk⟩ := rd_mult b r
    refine ⟨b.1 * k + (rd b r).1, ?_⟩
    show b.1 * (rd b r).2 + b.2 * (rd b r).1 = _
    rw [hk]
    grind
def lostChk (b : P2) : Bool := !isB b || !(decide (0 < b.1) && (b.2 == 1 || b.2 == -1)) || ((List.range 12).any fun k => orb b (0, 1) k == (1 - b.1, b.2)) && (nxt b (1 - b.1, b.2) == (1 - b.1, b.2)) && !((1 - b.1, b.2) == ((0, 0) : P2))
theorem lost_all : ((List.range 30).all fun i => lostChk ((i : Int) + 1, 1) && lostChk ((i : Int) + 1, -1)) = true := by decide +kernel
theorem not_tells {b : P2} (h : isB b = true) (t : ¬ tells b) : ¬ ∃ k, Ends0 b (0, 1) k := by
  have g := good h
  obtain ⟨h30, _, hg, h2⟩ := isB_iff.mp h
  rintro ⟨k, hk⟩
  have e := figs_rd g k (0, 1) hk.1
  obtain ⟨m, hm⟩ := rd_mult b (figs b (0, 1) k)
  rw [e] at hm
  have hm : (1 : Int) = b.2 * m := hm
  have hb2 : b.2 = 1 ∨ b.2 = -1 := by
    have d : b.2.natAbs ∣ 1 := Int.natAbs_dvd_natAbs.mpr ⟨m, hm⟩
    have := Nat.dvd_one.mp d
    omega
  have hb1 : 0 < b.1 := by
    rcases Int.lt_trichotomy b.1 0 with c | c | c
    · exact absurd ⟨c, hb2⟩ t
    · exfalso
      have : nm b = 1 := by
        unfold nm
        rw [c]
        rcases hb2 with e | e <;> rw [e] <;> rfl
      omega
    · exact c
  have ck : lostChk b = true := by
    have a := List.all_eq_true.mp lost_all (b.1 - 1).toNat (List.mem_range.mpr (by omega))
    have ei : (((b.1 - 1).toNat : Int) + 1) = b.1 := by omega
    rw [ei, Bool.and_eq_true] at a
    rcases hb2 with z | z
    · have eb : b = (b.1, 1) := Prod.ext rfl z
      rw [eb]
      exact a.1
    · have eb : b = (b.1, -1) := Prod.ext rfl z
      rw [eb]
      exact a.2
  unfold lostChk at ck
  have c1 : (decide (0 < b.1) && (b.2 == 1 || b.2 == -1)) = true := by
    rw [Bool.and_eq_true, decide_eq_true_eq, Bool.or_eq_true, beq_iff_eq, beq_iff_eq]
    exact ⟨hb1, hb2⟩
  rw [h, c1] at ck
  simp only [Bool.not_true, Bool.false_or, Bool.and_eq_true, beq_iff_eq, Bool.not_eq_true', beq_eq_false_iff_ne] at ck
  obtain ⟨⟨ca, cb⟩, cc⟩ := ck
  obtain ⟨j, hj, ej⟩ := List.any_eq_true.mp ca
  rw [beq_iff_eq] at ej
  have stay : ∀ t, orb b (0, 1) (j + t) = (1 - b.1, b.2) := by
    intro t
    induction t with
    | zero => exact ej
    | succ t ih =>
      show nxt b (orb b (0, 1) (j + t)) = _
      rw [ih, cb]
  rcases Nat.le_total k j with c | c
  · have z := orb_zero g hk.1 (j - k)
    rw [show k + (j - k) = j by omega, ej] at z
    exact cc z
  · have z := stay (k - j)
    rw [show j + (k - j) = k by omega, hk.1] at z
    exact cc z.symm

/-! ### turned about -/
def cj (p : P2) : P2 := (p.1, -p.2)
theorem tm_cj (p q : P2) : tm (cj p) (cj q) = cj (tm p q) := by
  unfold tm cj
  refine Prod.ext ?_ ?_
  · show _ = _
    dsimp only
    grind
  · show _ = _
    dsimp only
    grind
theorem nm_cj (b : P2) : nm (cj b) = nm b := by
  unfold nm cj
  grind
theorem isB_cj {b : P2} (h : isB b = true) : isB (cj b) = true := by
  obtain ⟨h1, h2, h3, h4⟩ := isB_iff.mp h
  refine isB_iff.mpr ⟨h1, ?_, ?_, by rw [nm_cj]; exact h4⟩
  · show (-b.2).natAbs ≤ 30
    rw [Int.natAbs_neg]
    exact h2
  · show Nat.gcd b.1.natAbs (-b.2).natAbs = 1
    rw [Int.natAbs_neg]
    exact h3
theorem rd_cj (b : P2) : ∀ r : List Int, rd (cj b) r = cj (rd b r)
  | [] => rfl
  | f :: r => by
    show ((tm (cj b) (rd (cj b) r)).1 + f, (tm (cj b) (rd (cj b) r)).2) = _
    rw [rd_cj b r, tm_cj]
    rfl
theorem rowOk_cj {b : P2} {r : List Int} (h : rowOk b r) : rowOk (cj b) r := ⟨fun f hf => by rw [nm_cj]; exact h.1 f hf, h.2⟩

/-! ### numbers -/
/-- what figures are worth -/
def worth (n : Int) : List Int → Int
  | [] => 0
  | f :: r => worth n r * n + f
/-- a number's figures; the fuel is more than enough -/
def digs (n : Int) : Nat → Int → List Int
  | 0, _ => []
  | k + 1, z => if 0 < z then z % n :: digs n k (z / n) else []
def dig (n z : Int) : List Int := digs n (z.toNat + 1) z
theorem div_small {n z : Int} (hn : 2 ≤ n) (hz : 0 < z) : 0 ≤ z / n ∧ (z / n).toNat < z.toNat := by
  have h0 : 0 ≤ z / n := Int.ediv_nonneg (by omega) (by omega)
  have h1 : z / n < z := Int.ediv_lt_of_lt_mul (by omega) (by
    have : 2 * z ≤ n * z := Int.mul_le_mul_of_nonneg_right hn (by omega)
    have e := Int.mul_comm n z
    omega)
  omega
theorem digs_fuel {n : Int} (hn : 2 ≤ n) : ∀ (k j : Nat) (z : Int), z.toNat < k → z.toNat < j → digs n k z = digs n j z
  | 0, _, _, h, _ => absurd h (Nat.not_lt_zero _)
  | _ + 1, 0, _, _, h => absurd h (Nat.not_lt_zero _)
  | k + 1, j + 1, z, h1, h2 => by
    unfold digs
    by_cases c : 0 < z
    · rw [if_pos c, if_pos c]
      have q := div_small hn c
      rw [digs_fuel hn k j (z / n) (by omega) (by omega)]
    · rw [if_neg c, if_neg c]
theorem dig_zero (n : Int) {z : Int} (h : ¬ 0 < z) : dig n z = [] := by
  unfold dig digs
  rw [if_neg h]
theorem dig_step {n z : Int} (hn : 2 ≤ n) (h : 0 < z) : dig n z = z % n :: dig n (z / n) := by
  have q := div_small hn h
  unfold dig
  conv => lhs; unfold digs
  rw [if_pos h, digs_fuel hn z.toNat ((z / n).toNat + 1) (z / n) (by omega) (by omega)]
theorem dig_ind {n : Int} (hn : 2 ≤ n) {P : Int → Prop} (h0 : ∀ z, ¬ 0 < z → P z) (h1 : ∀ z, 0 < z → P (z / n) → P z) (z : Int) : P z := by
  have key : ∀ k (z : Int), z.toNat ≤ k → P z := by
    intro k
    induction k with
    | zero => intro z hz; exact h0 z (by omega)
    | succ k ih =>
      intro z hz
      by_cases c : 0 < z
      · have q := div_small hn c
        exact h1 z c (ih (z / n) (by omega))
      · exact h0 z c
  exact key z.toNat z (Nat.le_refl _)
theorem dig_row {b : P2} (g : Good b) (z : Int) : rowOk b (dig (nm b) z) := by
  have hn := g.two
  refine dig_ind hn (P := fun z => rowOk b (dig (nm b) z)) (fun z h => ?_) (fun z h ih => ?_) z
  · rw [dig_zero _ h]
    exact ⟨fun f hf => absurd hf List.not_mem_nil, fun f hf => by cases hf⟩
  · have q := div_small hn h
    refine ⟨fun f hf => ?_, fun f hf => ?_⟩
    · rw [dig_step hn h] at hf
      rcases List.mem_cons.mp hf with e | hf
      · rw [e]
        exact ⟨Int.emod_nonneg _ (by omega), Int.emod_lt_of_pos _ (by omega)⟩
      · exact ih.1 f hf
    · rw [dig_step hn h] at hf
      by_cases c : 0 < z / nm b
      · rw [dig_step hn c, List.getLast?_cons_cons, ← dig_step hn c] at hf
        exact ih.2 f hf
      · rw [dig_zero _ c] at hf
        have e : z % nm b = f := Option.some.inj hf
        have z0 : z / nm b = 0 := by omega
        have := Int.emod_add_mul_ediv z (nm b)
        rw [z0, Int.mul_zero] at this
        omega
theorem worth_dig {n : Int} (hn : 2 ≤ n) (z : Int) (h : 0 ≤ z) : worth n (dig n z) = z := by
  refine dig_ind hn (P := fun z => 0 ≤ z → worth n (dig n z) = z) (fun z h _ => ?_) (fun z h ih _ => ?_) z h
  · rw [dig_zero _ h]
    show (0 : Int) = z
    omega
  · have q := div_small hn h
    rw [dig_step hn h]
    show worth n (dig n (z / n)) * n + z % n = z
    rw [ih q.1]
    have := Int.emod_add_mul_ediv z n
    have e := Int.mul_comm n (z / n)
    omega
theorem dig_worth {b : P2} (g : Good b) : ∀ r : List Int, rowOk b r → 0 ≤ worth (nm b) r ∧ (r ≠ [] → 0 < worth (nm b) r) ∧ dig (nm b) (worth (nm b) r) = r
  | [], _ => ⟨Int.le_refl 0, fun h => absurd rfl h, dig_zero _ (Int.lt_irrefl 0)⟩
  | f :: r, h => by
    have hn := g.two
    obtain ⟨i0, i1, i2⟩ := dig_worth g r h.tail
    obtain ⟨f0, f1⟩ := h.1 f List.mem_cons_self
    have w0 : 0 ≤ worth (nm b) r * nm b := Int.mul_nonneg i0 (by omega)
    have pos : 0 < worth (nm b) r * nm b + f := by
      cases r with
      | nil =>
        have := h.2 f rfl
        omega
      | cons y t =>
        have := Int.mul_pos (i1 (fun e => by cases e)) (show 0 < nm b by omega)
        omega
    refine ⟨by show 0 ≤ worth (nm b) r * nm b + f; omega, fun _ => pos, ?_⟩
    show dig (nm b) (worth (nm b) r * nm b + f) = f :: r
    have e1 : (worth (nm b) r * nm b + f) % nm b = f := by
      rw [Int.add_comm, Int.add_mul_emod_self_right, Int.emod_eq_of_lt f0 f1]
    have e2 : (worth (nm b) r * nm b + f) / nm b = worth (nm b) r := by
      rw [Int.add_comm, Int.add_mul_ediv_right _ _ (by omega), Int.ediv_eq_zero_of_lt f0 f1, Int.zero_add]
    rw [dig_step hn pos, e1, e2, i2]
theorem dig_len {n : Int} (hn : 2 ≤ n) : ∀ (k : Nat) (z : Int), z < 2 ^ k → (dig n z).length ≤ k
  | 0, z, h => by
    rw [dig_zero _ (by simp at h; omega)]
    exact Nat.zero_le _
  | k + 1, z, h => by
    by_cases c : 0 < z
    · rw [dig_step hn c, List.length_cons]
      have lt : z / n < 2 ^ k := Int.ediv_lt_of_lt_mul (by omega) (by
        rw [Int.pow_succ] at h
        have hp : (0 : Int) ≤ 2 ^ k := Int.le_of_lt (Int.pow_pos (by decide))
        have : 2 * (2 : Int) ^ k ≤ n * 2 ^ k := Int.mul_le_mul_of_nonneg_right hn hp
        have e := Int.mul_comm n ((2 : Int) ^ k)
        omega)
      have := dig_len hn k (z / n) lt
      omega
    · rw [dig_zero _ c]
      exact Nat.zero_le _
end Pb
set_option Elab.async false
set_option linter.all false
set_option maxRecDepth 100000
/-! short words of our own over the layer -/
namespace Pb
open PySem PySem.Spec PyProof.Rows L2

/-- a def of the module's top that keeps a promise: found by its name -/
def Has (P : Program) (w : World) (K : PySem.W.Frag) (mg : Str → Option Value) (base : Heap) (x : Str) (k : Nat) (ps : List Str) (sp : Sp) : Prop :=
  ∃ (f : Addr) (fd : FuncData), FnOk P w K mg base CX0 k f fd ps sp ∧ mg x = some (.ref f) ∧ PySem.W.keepIn K (.ref f) = true ∧ Binds K fd ps []
def tH (sp : Sp) (t : TA) : TE := fun σ H Q => t σ H fun vs H1 => sp vs H1 Q E0
theorem PE.weaken {X : Cx} {e : Expr} {t u : TE} (h : PE X e t) (k : ∀ σ H Q, u σ H Q → t σ H Q) : PE X e u := ⟨fun pins s σ H Q I q => h.run pins s σ H Q I (k σ H Q q)⟩
section
variable {X : Cx} {k : Nat} {ps : List Str} {sp : Sp} {x : Str} {p pos : Pos} {e : Expr} {es : List Expr} {t : TA}
theorem pe_H (G : Has X.prog X.w X.K X.mg X.base x k ps sp) (hr : Room k X.A) (hg : Gl X x) (ha : PA X (e :: es) t) (hdb : (x == ("__debug__" : Str)) = false := by decide)
    (he : starEach (e :: es) X.env = (false, eval e X.env) :: starEach es X.env := by rfl) (hpl : (backTo pos (starEach es X.env)).any (·.1) = false := by rfl) :
    PE X (.Call (.Name x p) (e :: es) [] pos) (tH sp t) := by
  obtain ⟨f, fd, F, hm, hk, hb⟩ := G
  refine PE.weaken (pe_call (E := E0) F hr hg hm hk hb .nil pass0 ha hdb he hpl) fun σ H Q q => ?_
  have e1 : (fun (vs : List V) (H1 : Hp) => sp (vs ++ []) H1 Q E0) = fun vs H1 => sp vs H1 Q E0 := by
    funext vs H1
    rw [List.append_nil]
  show t σ H fun vs H1 => sp (vs ++ []) H1 Q E0
  rw [e1]
  exact q
end
theorem has_of {P : Program} {w : World} {K : PySem.W.Frag} {mg : Str → Option Value} {base : Heap} {x qual : Str} {st : Stmt} {f : Addr} {fd : FuncData} {k : Nat} {ps : List Str} {sp : Sp}
    (F : Fun K x qual st f fd) (hm : mg x = some (.ref f)) (ok : FnOk P w K mg base CX0 k f fd ps sp) (b : Binds K fd ps []) : Has P w K mg base x k ps sp := ⟨f, fd, ok, hm, F.kp, b⟩

/-! ### pairs on the heap -/
/-- v is a tuple of the pair's two numbers -/
def Pa (K : PySem.W.Frag) (H : Hp) (v : V) (p : P2) : Prop := ∃ a, v = .ref a ∧ H a = some (.tup [.int p.1, .int p.2])
theorem SqT.same {K : PySem.W.Frag} {H H' : Hp} {a : Addr} {xs : List V} (e : Same H H') (h : SqT K H a xs) : SqT K H' a xs := by
  rcases h with (h | ⟨o, h⟩) | h
  · exact .inl (.inl (e _ _ h))
  · exact .inl (.inr ⟨o, e _ _ h⟩)
  · exact .inr h
theorem Pa.same {K : PySem.W.Frag} {H H' : Hp} {v : V} {p : P2} (e : Same H H') (h : Pa K H v p) : Pa K H' v p := by
  obtain ⟨a, h1, h2⟩ := h
  exact ⟨a, h1, e _ _ h2⟩
theorem same_upd {H : Hp} {a : Addr} {o : HO} (h : H a = none) : Same H (upd H a o) := fun b u e => by
  rw [upd_ne (ne_of_none e h)]
  exact e
theorem Pa.new {K : PySem.W.Frag} {H : Hp} {a : Addr} {x y : Int} : Pa K (upd H a (.tup [.int x, .int y])) (.ref a) (x, y) := ⟨a, rfl, upd_same⟩
theorem Pa.sq {K : PySem.W.Frag} {H : Hp} {v : V} {p : P2} (h : Pa K H v p) : ∃ a, v = .ref a ∧ SqT K H a [.int p.1, .int p.2] := by
  obtain ⟨a, h1, h2⟩ := h
  exact ⟨a, h1, SqT.of h2⟩
/-- a pair is kept when another thing is changed -/
theorem Pa.upd {K : PySem.W.Frag} {H : Hp} {v : V} {p : P2} {l : Addr} {o o' : HO} (h : Pa K H v p) (hl : H l = some o) (n : ∀ xs, o ≠ .tup xs) : Pa K (L2.upd H l o') v p := by
  obtain ⟨a, h1, h2⟩ := h
  exact ⟨a, h1, by rw [upd_ne (ne_of h2 hl (fun q => n _ q.symm))]; exact h2⟩
theorem SqT.new {K : PySem.W.Frag} {H : Hp} {a : Addr} {xs : List V} : SqT K (upd H a (.tup xs)) a xs := .inl (.inl upd_same)
theorem SqL.new {K : PySem.W.Frag} {H : Hp} {a : Addr} {xs : List V} : SqL K (upd H a (.lst xs)) a xs := .inl (.inl upd_same)
theorem small_size {n : Nat} (h : n ≤ 16000000) : n ≤ sizeLine := Nat.le_trans h (by decide)
theorem small_size_lt {n : Nat} (h : n ≤ 16000000) : n < sizeLine := Nat.lt_of_le_of_lt h (by decide)

/-! ### data -/
def pD (p : P2) : PyData := .tuple [.int p.1, .int p.2]
theorem Pa.dp {K : PySem.W.Frag} {H : Hp} {v : V} {p : P2} (h : Pa K H v p) : Dp K H v (pD p) := by
  obtain ⟨a, rfl, h2⟩ := h
  exact .tup (SqT.of h2) (.cons (.int _) (.cons (.int _) .nil))
theorem pD_dp {K : PySem.W.Frag} {H : Hp} {a : Addr} {x y : Int} (h : SqT K H a [.int x, .int y]) : Dp K H (.ref a) (pD (x, y)) := .tup h (.cons (.int _) (.cons (.int _) .nil))
theorem pD_shaped (p : P2) : SeqAt.shaped (pD p) = true := by
  simp [SeqAt.shaped, pD, PyData.canLay0, PyData.canLayAll0, PyData.depth, PyData.depthAll]
theorem pD_eqv (p q : P2) : PyData.eqv (pD p) (pD q) = decide (p = q) := by
  obtain ⟨a, b⟩ := p
  obtain ⟨c, d⟩ := q
  have e : PyData.eqv (pD (a, b)) (pD (c, d)) = ((a == c) && ((b == d) && true)) := by simp only [pD, PyData.eqv, PyData.eqvAll]
  rw [e, Bool.and_true]
  by_cases h1 : a = c
  · by_cases h2 : b = d
    · subst h1 h2
      simp
    · have n : ¬ ((a, b) : P2) = (c, d) := fun z => h2 (congrArg Prod.snd z)
      rw [decide_eq_false n, beq_eq_false_iff_ne.mpr h2, Bool.and_false]
  · have n : ¬ ((a, b) : P2) = (c, d) := fun z => h1 (congrArg Prod.fst z)
    rw [decide_eq_false n, beq_eq_false_iff_ne.mpr h1, Bool.false_and]
/-- the values vs are pairs -/
def PaAll (K : PySem.W.Frag) (H : Hp) : List V → List P2 → Prop := Paired (Pa K H)
theorem PaAll.dp {K : PySem.W.Frag} {H : Hp} : ∀ {vs : List V} {ps : List P2}, PaAll K H vs ps → DpAll K H vs (ps.map pD)
  | _, _, .nil => .nil
  | _, _, .cons h t => .cons h.dp (PaAll.dp t)
theorem PaAll.same {K : PySem.W.Frag} {H H' : Hp} (e : Same H H') : ∀ {vs : List V} {ps : List P2}, PaAll K H vs ps → PaAll K H' vs ps
  | _, _, .nil => .nil
  | _, _, .cons h t => .cons (h.same e) (PaAll.same e t)
theorem PaAll.length {K : PySem.W.Frag} {H : Hp} {vs : List V} {ps : List P2} (h : PaAll K H vs ps) : vs.length = ps.length := Paired.length h
theorem PaAll.snoc {K : PySem.W.Frag} {H : Hp} {v : V} {p : P2} (hp : Pa K H v p) : ∀ {vs : List V} {ps : List P2}, PaAll K H vs ps → PaAll K H (vs ++ [v]) (ps ++ [p])
  | _, _, .nil => .cons hp .nil
  | _, _, .cons h t => .cons h (PaAll.snoc hp t)
theorem PaAll.append {K : PySem.W.Frag} {H : Hp} {us : List V} {qs : List P2} (hp : PaAll K H us qs) : ∀ {vs : List V} {ps : List P2}, PaAll K H vs ps → PaAll K H (vs ++ us) (ps ++ qs)
  | _, _, .nil => hp
  | _, _, .cons h t => .cons h (PaAll.append hp t)
theorem PaAll.take {K : PySem.W.Frag} {H : Hp} : ∀ {vs : List V} {ps : List P2} (n : Nat), PaAll K H vs ps → PaAll K H (vs.take n) (ps.take n)
  | _, _, 0, _ => by
    rw [List.take_zero, List.take_zero]
    exact .nil
  | _, _, _ + 1, .nil => .nil
  | _, _, n + 1, .cons h t => .cons h (PaAll.take n t)
theorem PaAll.drop {K : PySem.W.Frag} {H : Hp} : ∀ {vs : List V} {ps : List P2} (n : Nat), PaAll K H vs ps → PaAll K H (vs.drop n) (ps.drop n)
  | _, _, 0, h => h
  | _, _, _ + 1, .nil => .nil
  | _, _, n + 1, .cons _ t => PaAll.drop n t
theorem PaAll.get {K : PySem.W.Frag} {H : Hp} : ∀ {vs : List V} {ps : List P2} {i : Nat} {v : V}, PaAll K H vs ps → vs[i]? = some v → ∃ p, ps[i]? = some p ∧ Pa K H v p
  | _, _, _, _, .nil, e => by simp at e
  | _, _, 0, _, .cons h _, e => by
    simp at e
    subst e
    exact ⟨_, rfl, h⟩
  | _, _, i + 1, _, .cons _ t, e => PaAll.get (i := i) t (by simpa using e)
theorem PaAll.get' {K : PySem.W.Frag} {H : Hp} : ∀ {vs : List V} {ps : List P2} {i : Nat} {p : P2}, PaAll K H vs ps → ps[i]? = some p → ∃ v, vs[i]? = some v ∧ Pa K H v p
  | _, _, _, _, .nil, e => by simp at e
  | _, _, 0, _, .cons h _, e => by
    simp at e
    subst e
    exact ⟨_, rfl, h⟩
  | _, _, i + 1, _, .cons _ t, e => PaAll.get' (i := i) t (by simpa using e)
/-- a list of pairs at a -/
def PaL (K : PySem.W.Frag) (H : Hp) (a : Addr) (ps : List P2) : Prop := ∃ vs, SqL K H a vs ∧ PaAll K H vs ps
theorem PaL.same {K : PySem.W.Frag} {H H' : Hp} {a : Addr} {ps : List P2} (e : Same H H') (h : PaL K H a ps) : PaL K H' a ps := by
  obtain ⟨vs, h1, h2⟩ := h
  exact ⟨vs, e.seq h1, h2.same e⟩
theorem PaL.dp {K : PySem.W.Frag} {H : Hp} {a : Addr} {ps : List P2} (h : PaL K H a ps) : Dp K H (.ref a) (.list (ps.map pD)) := by
  obtain ⟨vs, h1, h2⟩ := h
  exact .lst h1 h2.dp
theorem pD_lay (p : P2) : PyData.canLay0 (pD p) = true := by
  unfold pD
  simp [PyData.canLay0, PyData.canLayAll0]
theorem pDs_lay (ps : List P2) : PyData.canLayAll0 (ps.map pD) = true := by
  induction ps with
  | nil => simp [PyData.canLayAll0]
  | cons p ps ih => simp [PyData.canLayAll0, pD_lay, ih]
theorem pD_depth (p : P2) : PyData.depth (pD p) ≤ 2 := by
  unfold pD
  simp [PyData.depth, PyData.depthAll]
theorem pDs_depth (ps : List P2) : PyData.depthAll (ps.map pD) ≤ 2 := by
  induction ps with
  | nil => simp [PyData.depthAll]
  | cons p ps ih =>
    have h := pD_depth p
    simp only [List.map_cons, PyData.depthAll]
    omega
theorem pDs_shaped (ps : List P2) : SeqAt.shaped (.list (ps.map pD)) = true := by
  have h1 := pDs_lay ps
  have h2 := pDs_depth ps
  unfold SeqAt.shaped
  rw [Bool.and_eq_true, decide_eq_true_eq]
  refine ⟨by simp only [PyData.canLay0]; exact h1, ?_⟩
  simp only [PyData.depth]
  omega
theorem pDs_eqv : ∀ ps qs : List P2, PyData.eqvAll (ps.map pD) (qs.map pD) = decide (ps = qs)
  | [], [] => rfl
  | [], q :: qs => by simp [PyData.eqvAll]
  | p :: ps, [] => by simp [PyData.eqvAll]
  | p :: ps, q :: qs => by
    simp only [List.map_cons, PyData.eqvAll, pD_eqv, pDs_eqv ps qs]
    by_cases h1 : p = q
    · by_cases h2 : ps = qs <;> simp [h1, h2]
    · simp [h1]
theorem pDl_eqv (ps qs : List P2) : PyData.eqv (.list (ps.map pD)) (.list (qs.map pD)) = decide (ps = qs) := by
  simp only [PyData.eqv]
  exact pDs_eqv ps qs
theorem pDs_any (ps : List P2) (q : P2) : ((ps.map pD).any fun z => PyData.eqv z (pD q)) = decide (q ∈ ps) := by
  induction ps with
  | nil => simp
  | cons p ps ih =>
    rw [List.map_cons, List.any_cons, ih, pD_eqv]
    by_cases h : p = q
    · subst h
      simp
    · have h' : ¬ q = p := fun e => h e.symm
      simp [h, h']
/-- lists of ints as data -/
def iD (ns : List Int) : PyData := .list (ns.map PyData.int)
theorem iD_dp {K : PySem.W.Frag} {H : Hp} {a : Addr} {ns : List Int} (h : SqL K H a (ns.map V.int)) : Dp K H (.ref a) (iD ns) := by
  refine .lst h ?_
  clear h
  induction ns with
  | nil => exact .nil
  | cons n ns ih => exact .cons (.int n) ih
theorem iD_shaped (ns : List Int) : SeqAt.shaped (iD ns) = true := by
  have h1 : PyData.canLayAll0 (ns.map PyData.int) = true := by
    induction ns with
    | nil => simp [PyData.canLayAll0]
    | cons n ns ih => simp [PyData.canLayAll0, PyData.canLay0, ih]
  have h2 : PyData.depthAll (ns.map PyData.int) ≤ 1 := by
    clear h1
    induction ns with
    | nil => simp [PyData.depthAll]
    | cons n ns ih =>
      simp only [List.map_cons, PyData.depthAll, PyData.depth]
      omega
  unfold SeqAt.shaped iD
  rw [Bool.and_eq_true, decide_eq_true_eq]
  refine ⟨by simp only [PyData.canLay0]; exact h1, ?_⟩
  simp only [PyData.depth]
  omega
theorem iD_eqv (ns ms : List Int) : PyData.eqv (iD ns) (iD ms) = decide (ns = ms) := by
  unfold iD
  simp only [PyData.eqv]
  induction ns generalizing ms with
  | nil => cases ms <;> simp [PyData.eqvAll]
  | cons n ns ih =>
    cases ms with
    | nil => simp [PyData.eqvAll]
    | cons m ms =>
      simp only [List.map_cons, PyData.eqvAll, PyData.eqv, ih ms]
      by_cases h1 : n = m
      · by_cases h2 : ns = ms <;> simp [h1, h2]
      · simp [h1]

/-! ### while by a word over the number that falls -/
theorem while_m {c : TT} {tb : TS} {D : Ends} {σ : L2.St} {H : Hp} (Pv : Nat → L2.St → Hp → Prop) (m0 : Nat) (h0 : Pv m0 σ H)
    (hs : ∀ m σ H, Pv m σ H → c σ H fun b H1 => if b = true then tb { D with nx := fun σ' H' => ∃ m', m' < m ∧ Pv m' σ' H', ct := fun σ' H' => ∃ m', m' < m ∧ Pv m' σ' H', bk := D.nx } σ H1 else D.nx σ H1)
    (mono : ∀ σ H (Q Q' : Bool → Hp → Prop), (∀ b H1, Q b H1 → Q' b H1) → c σ H Q → c σ H Q') : tWhile c tb D σ H := by
  refine ⟨Pv, ⟨m0, h0⟩, fun m σ H p => mono σ H _ _ (fun b H1 q => ?_) (hs m σ H p)⟩
  cases b with
  | true =>
    rw [if_pos rfl] at q ⊢
    exact ⟨_, fun σ' H' z => z, q⟩
  | false => exact q

/-! ### products of great ints: both together below a hundred million bits -/
def CMulB (i j : Int) : Prop := Builtin.Int.intBits i + Builtin.Int.intBits j ≤ 100000000
theorem bits_lt {i : Int} {n : Nat} (h : i.natAbs < 2 ^ n) : Builtin.Int.intBits i ≤ n := by
  by_cases z : i = 0
  · subst z
    exact Nat.zero_le _
  · have q : Builtin.Int.intBits i = i.natAbs.log2 + 1 := if_neg (by simpa using z)
    rw [q]
    exact (Nat.log2_lt (by omega)).mpr h
theorem lt_bits {i : Int} {n : Nat} (h : Builtin.Int.intBits i ≤ n) : i.natAbs < 2 ^ n := by
  by_cases z : i = 0
  · subst z
    exact Nat.pow_pos (by decide)
  · have q : Builtin.Int.intBits i = i.natAbs.log2 + 1 := if_neg (by simpa using z)
    rw [q] at h
    exact (Nat.log2_lt (by omega)).mp h
theorem cMulB_ok {i j : Int} (h : CMulB i j) : IntMulOk i j := fun z => by
  have z1 : decide (((Builtin.Int.intBits i + Builtin.Int.intBits j : Nat) : Int) > bitsLine) = true := (Bool.and_eq_true_iff.mp z).2
  have z2 := of_decide_eq_true z1
  unfold CMulB at h
  rw [show bitsLine = 134217728 from by decide] at z2
  omega
theorem op_mulB {X : Cx} : OpR X (binaryOp .Mult) (rI CMulB fun i j => .int (i * j)) := opI fun _ _ _ _ _ _ _ c q => mul_int q (cMulB_ok c)

/-! ### isinstance of one class, a target of two -/
def rIsN (K : PySem.W.Frag) : List V → Hp → VK → Prop := fun xs H Q => match xs with
  | [x, .ty n] => ∃ t b, TyX K H x t ∧ PySem.W.kitOne K t (.type n) = some b ∧ Q (.bl b) H
  | [x, .ref C] => ∃ t b, TyX K H x t ∧ PySem.W.kitOne K t (.ref C) = some b ∧ Q (.bl b) H
  | _ => False
theorem call_isN {X : Cx} : CallR X (.builtin "isinstance") (rIsN X.K) := by
  intro pins s σ H xs us Q I r h
  match xs, h with
  | [x, .ty n], h =>
    obtain ⟨t, b, h1, h2, h3⟩ := h
    exact call_isi pins s σ H _ us Q I r ⟨x, .ty n, t, .type n, b, rfl, .ty n, h1, h2, h3⟩
  | [x, .ref C], h =>
    obtain ⟨t, b, h1, h2, h3⟩ := h
    exact call_isi pins s σ H _ us Q I r ⟨x, .ref C, t, .ref C, b, rfl, .own C, h1, h2, h3⟩
def gT2 (K : PySem.W.Frag) (t1 t2 : TG) : TG := fun v σ H Q => ∃ a x y, v = .ref a ∧ SqT K H a [x, y] ∧ t1 x σ H fun σ' H' => t2 y σ' H' Q
theorem pg_2 {X : Cx} {tg : Expr} {t1 t2 : TG} (h : PG X tg (gTup X.K 2 (gCons t1 (gCons t2 gNil)))) : PG X tg (gT2 X.K t1 t2) := by
  refine ⟨fun pins s σ H v u Q I r q => h.run pins s σ H v u Q I r ?_⟩
  obtain ⟨a, x, y, e, z, q⟩ := q
  refine ⟨a, [x, y], e, z, rfl, x, [y], rfl, ?_⟩
  have e1 : (fun σ' H' => gCons t2 gNil [y] σ' H' Q) = fun σ' H' => (∃ v r, [y] = v :: r ∧ t2 v σ' H' fun σ2 H2 => r = [] ∧ Q σ2 H2) := rfl
  have e2 : (fun (σ' : L2.St) (H' : Hp) => (∃ v r, [y] = v :: r ∧ t2 v σ' H' fun σ2 H2 => r = [] ∧ Q σ2 H2)) = fun σ' H' => t2 y σ' H' Q := by
    funext σ' H'
    refine propext ⟨fun ⟨v, r, e, k⟩ => ?_, fun k => ⟨y, [], rfl, ?_⟩⟩
    · obtain ⟨rfl, rfl⟩ := List.cons.inj e
      have e3 : (fun (σ2 : L2.St) (H2 : Hp) => ([] : List V) = [] ∧ Q σ2 H2) = Q := by
        funext σ2 H2
        exact propext ⟨fun z => z.2, fun z => ⟨rfl, z⟩⟩
      rw [e3] at k
      exact k
    · have e3 : (fun (σ2 : L2.St) (H2 : Hp) => ([] : List V) = [] ∧ Q σ2 H2) = Q := by
        funext σ2 H2
        exact propext ⟨fun z => z.2, fun z => ⟨rfl, z⟩⟩
      rw [e3]
      exact k
  rw [e1, e2]
  exact q
theorem SqT.ty {K : PySem.W.Frag} {H : Hp} {a : Addr} {xs : List V} (h : SqT K H a xs) : TyX K H (.ref a) (.type "tuple") := by
  rcases h with (h | ⟨o, h⟩) | ⟨o, its, n, h1, h2, _⟩
  · exact .base (.tup h)
  · exact .fTuple h
  · exact .kTuple h1 h2
theorem SqL.ty {K : PySem.W.Frag} {H : Hp} {a : Addr} {xs : List V} (h : SqL K H a xs) : TyX K H (.ref a) (.type "list") := by
  rcases h with (h | ⟨o, h⟩) | ⟨o, its, n, h1, h2, _⟩
  · exact .base (.lst h)
  · exact .base (.frz h)
  · exact .kList h1 h2

theorem take_succ' {α : Type} {l : List α} {i : Nat} {x : α} (h : l[i]? = some x) : l.take (i + 1) = l.take i ++ [x] := by
  rw [List.take_add_one, h]
  rfl
/-- [e for x in xs]: each element's value told ahead -/
theorem lc_map {K : PySem.W.Frag} {a : Addr} {xs : List V} {j : Nat} {te : TE} {σ : L2.St} {H1 : Hp} {D : Addr} {Qd : Hp → Prop} (ys : List V) (hl : ys.length = xs.length) (hz : xs.length ≤ 16000000) (hS : SqL K H1 a xs) (hD : H1 D = none)
    (hs : ∀ (i : Nat) (x y : V) (H : Hp) (R : VK), xs[i]? = some x → ys[i]? = some y → Same H1 H → (∀ H', Same H H' → R y H') → te ((wipe σ [j]).set j (some x)) H R)
    (hd : ∀ H, Same H1 H → H D = some (.lst ys) → Qd H) :
    ∃ W : Nat → Nat → Hp → Prop, (∃ m, W 0 m (upd H1 D (.lst []))) ∧ ∀ i m H, W i m H →
      ((Itl K a).stop i H ∧ Qd H) ∨ ((Itl K a).go i H ∧ ∃ Nx : Hp → Prop, (∀ H', Nx H' → ∃ m', m' < m ∧ W (i + 1) m' H') ∧ ∀ x H', (Itl K a).yld i H x H' → gName j x (wipe σ [j]) H' fun σ2 H2 => wipe σ2 [j] = wipe σ [j] ∧ tYes σ2 H2 fun b H3 =>
        if b = true then te σ2 H3 fun y H4 => ∃ acc, H4 D = some (.lst acc) ∧ acc.length < sizeLine ∧ Nx (upd H4 D (.lst (acc ++ [y]))) else Nx H3) := by
  refine lc_list (K := K) (a := a) (xs := xs) (fun i H => Same H1 H ∧ H D = some (.lst (ys.take i))) ⟨same_upd hD, by rw [List.take_zero]; exact upd_same⟩ (fun i H _ p => p.1.seq hS) (fun i x H hx p => ?_) (fun H p => hd H p.1 (by rw [p.2, ← hl, List.take_length]))
  obtain ⟨s1, s2⟩ := p
  have il : i < ys.length := by
    rw [hl]
    exact (List.getElem?_eq_some_iff.mp hx).1
  have hy : ys[i]? = some ys[i] := List.getElem?_eq_getElem il
  refine ⟨?_, iteT (B := Same H1 H ∧ H D = some (.lst (ys.take (i + 1)))) (hs i x _ H _ hx hy s1 fun H' s3 => ⟨_, s3 _ _ s2, ?_, fun b o e => ?_, ?_⟩)⟩
  · simp only [wipe, List.set_set]
  · rw [List.length_take]
    exact Nat.lt_of_le_of_lt (Nat.min_le_left _ _) (small_size_lt (by omega))
  · rw [upd_ne (ne_of_none e hD)]
    exact s3 _ _ (s1 _ _ e)
  · rw [upd_same, take_succ' hy]
/-- x in TyX stays -/
theorem TyX.same {K : PySem.W.Frag} {H H' : Hp} {x : V} {t : Value} (e : Same H H') (h : TyX K H x t) : TyX K H' x t := by
  cases h with
  | base b =>
    refine .base ?_
    cases b with
    | non => exact .non
    | bl y => exact .bl y
    | int i => exact .int i
    | str y => exact .str y
    | flt y => exact .flt y
    | lst z => exact .lst (e _ _ z)
    | frz z => exact .frz (e _ _ z)
    | tup z => exact .tup (e _ _ z)
    | dK z => exact .dK (e _ _ z)
    | dT z => exact .dT (e _ _ z)
    | ins z c1 c2 c3 c4 c5 => exact .ins (e _ _ z) c1 c2 c3 c4 c5
  | byt b => exact .byt b
  | set z => exact .set (e _ _ z)
  | kList z c => exact .kList z c
  | kTuple z c => exact .kTuple z c
  | kDict z c => exact .kDict z c
  | fTuple z => exact .fTuple (e _ _ z)
  | fDict z => exact .fDict (e _ _ z)
/-- the last of a list, cut off -/
theorem cut_last (xs : List V) : cutV xs (some (-1)) none = xs.drop (xs.length - 1) := by
  unfold cutV
  have e1 : HT.sIx xs.length 0 (some (-1)) = xs.length - 1 := by
    show (if (-1 : Int) < 0 then ((-1 : Int) + (xs.length : Int)).toNat else min (-1 : Int).toNat xs.length) = xs.length - 1
    rw [if_pos (by decide)]
    omega
  have e2 : HT.sIx xs.length xs.length none = xs.length := rfl
  rw [e1, e2, List.take_of_length_le (by rw [List.length_drop]; omega)]
theorem drop_last_ne (ns : List Int) : (ns.drop (ns.length - 1) ≠ [0]) ↔ lastOk ns := by
  unfold lastOk
  rcases List.eq_nil_or_concat ns with e | ⟨l, x, e⟩
  · subst e
    simp
  · subst e
    simp

/-! ### methods and instances -/
def HasM (P : Program) (w : World) (K : PySem.W.Frag) (mg : Str → Option Value) (base : Heap) (C : Addr) (m : Str) (k : Nat) (ps : List Str) (sp : Sp) : Prop :=
  ∃ (f : Addr) (fd : FuncData), FnOk P w K mg base CX0 k f fd ps sp ∧ Meth K C m f ∧ Binds K fd ps []
def HasI (P : Program) (w : World) (K : PySem.W.Frag) (mg : Str → Option Value) (base : Heap) (x : Str) (C : Addr) (k : Nat) (ps : List Str) (sp : Sp) : Prop :=
  ∃ (f : Addr) (fd : FuncData), FnOk P w K mg base CX0 k f fd ps sp ∧ Mk K C f ∧ Binds K fd ps [] ∧ mg x = some (.ref C)
def tHm (m : Str) (sp : Sp) (ta : TE) (t : TA) : TE := fun σ H Q => ta σ H fun x H1 => ∃ a C dx fs, x = .ref a ∧ H1 a = some (.ins C dx fs) ∧ fs.lookup m = none ∧ t σ H1 fun vs H2 => sp (x :: vs) H2 Q E0
def tHmC (C : Addr) (m : Str) (sp : Sp) (ta : TE) (t : TA) : TE := fun σ H Q => ta σ H fun x H1 => ∃ a dx fs, x = .ref a ∧ H1 a = some (.ins C dx fs) ∧ fs.lookup m = none ∧ t σ H1 fun vs H2 => sp (x :: vs) H2 Q E0
def tHi (C : Addr) (sp : Sp) (t : TA) : TE := fun σ H Q => t σ H fun vs H1 => ∀ x dx, H1 x = none → H1 dx = none → dx ≠ x → sp (.ref x :: vs) (upd (upd H1 dx (.own x)) x (.ins C dx [])) (fun v H2 => v = .non ∧ Q (.ref x) H2) E0
section
variable {X : Cx} {k : Nat} {ps : List Str} {sp : Sp} {x m : Str} {p pos apos : Pos} {o e : Expr} {es : List Expr} {ta : TE} {t : TA} {C : Addr}
theorem pe_Hm {pl : Sem Bool} (c : Cls X.K C) (G : HasM X.prog X.w X.K X.mg X.base C m k ps sp) (hr : Room k X.A) (ho : PE X o ta) (ha : PA X (e :: es) t)
    (hst : starEach (e :: es) X.env = (false, eval e X.env) :: starEach es X.env := by rfl) (hpl : (backTo pos (starEach es X.env)).any (·.1) = false := by rfl)
    (ht : eval (.Call (.Attribute o m apos) (e :: es) [] pos) X.env = (do
      let ov ← eval o X.env
      standAt apos.atName
      let (f, first) ← holding [ov] (getMethod ov m pl)
      callWith pos f first (backTo pos (starEach (e :: es) X.env)) (backToKw pos (keywordEach [] X.env))) := by rfl) :
    PE X (.Call (.Attribute o m apos) (e :: es) [] pos) (tHmC C m sp ta t) := by
  obtain ⟨f, fd, F, hm, hb⟩ := G
  refine PE.weaken (pe_meth (E := E0) ho c hm F hr hb .nil pass0 ha hst hpl ht) fun σ H Q q => ?_
  have e1 : (fun (y : V) (H1 : Hp) => ∃ a dx fs, y = V.ref a ∧ H1 a = some (.ins C dx fs) ∧ fs.lookup m = none ∧ t σ H1 fun vs H2 => sp (y :: (vs ++ [])) H2 Q E0) = fun y H1 => ∃ a dx fs, y = V.ref a ∧ H1 a = some (.ins C dx fs) ∧ fs.lookup m = none ∧ t σ H1 fun vs H2 => sp (y :: vs) H2 Q E0 := by
    funext y H1
    simp only [List.append_nil]
  show ta σ H _
  rw [e1]
  exact q
theorem pe_Hi (G : HasI X.prog X.w X.K X.mg X.base x C k ps sp) (hr : Room (k + 1) X.A) (hg : Gl X x) (ha : PA X (e :: es) t) (hdb : (x == ("__debug__" : Str)) = false := by decide)
    (he : starEach (e :: es) X.env = (false, eval e X.env) :: starEach es X.env := by rfl) (hpl : (backTo pos (starEach es X.env)).any (·.1) = false := by rfl) :
    PE X (.Call (.Name x p) (e :: es) [] pos) (tHi C sp t) := by
  obtain ⟨f, fd, F, M, hb, hm⟩ := G
  refine PE.weaken (pe_make (E := E0) M F hr hg hm hb .nil pass0 ha hdb he hpl) fun σ H Q q => ?_
  have e1 : (fun (vs : List V) (H1 : Hp) => ∀ x dx, H1 x = none → H1 dx = none → dx ≠ x → sp (.ref x :: (vs ++ [])) (upd (upd H1 dx (.own x)) x (.ins C dx [])) (fun v H2 => v = .non ∧ Q (.ref x) H2) E0) = fun vs H1 => ∀ x dx, H1 x = none → H1 dx = none → dx ≠ x → sp (.ref x :: vs) (upd (upd H1 dx (.own x)) x (.ins C dx [])) (fun v H2 => v = .non ∧ Q (.ref x) H2) E0 := by
    funext vs H1
    simp only [List.append_nil]
  show t σ H _
  rw [e1]
  exact q
end

theorem ifT {c : Bool} {A B : Prop} (hc : c = true) (h : A) : if c = true then A else B := by
  rw [if_pos hc]
  exact h
theorem ifF {c : Bool} {A B : Prop} (hc : c = false) (h : B) : if c = true then A else B := by
  rw [hc, if_neg Bool.false_ne_true]
  exact h
/-! ### own classes -/
structure CF (K : PySem.W.Frag) (mg : Str → Option Value) (x : Str) (C : Addr) : Prop where
  cl : Cls K C
  gC : mg x = some (.ref C)
  ha : PySem.W.findIn K (.ref C) "__class__" = some (some (.builtin "object.__class__"))
  hn : PySem.W.specialIn K (.builtin "object.__class__") "__get__" = some (some (.builtin "getset_descriptor.__get__"))
  tk : PySem.W.takesIn K (.builtin "object.__class__") = some true
  hm : PySem.W.mroIn K C (.type "object") = some true
  is : PySem.W.isClsIn K C = true
  ty : PySem.W.typeIn K (.ref C) = some (.type "type")
theorem CF.tyx {K : PySem.W.Frag} {mg : Str → Option Value} {x : Str} {C a dx : Addr} {H : Hp} {fs : List (Str × V)} (c : CF K mg x C) (e : H a = some (.ins C dx fs)) : TyX K H (.ref a) (.ref C) := .base (.ins e c.cl c.ha c.hn c.tk c.hm)
theorem kit_cl {K : PySem.W.Frag} {C D : Addr} {b : Bool} (i : PySem.W.isClsIn K C = true) (t : PySem.W.typeIn K (.ref C) = some (.type "type")) (s : PySem.W.subIn K (.ref D) (.ref C) = some b) (n : D ≠ C) : PySem.W.kitOne K (.ref D) (.ref C) = some b := by
  have n' : ¬ (Value.ref D == Value.ref C) = true := fun z => n (Value.ref.inj (eq_of_beq z))
  have e : ((PySem.W.clsIn K C).isSome && PySem.W.typeIn K (.ref C) == some (.type "type")) = true := by
    have i' : (PySem.W.clsIn K C).isSome = true := i
    rw [i', t]
    rfl
  unfold PySem.W.kitOne
  rw [if_neg n']
  show (if ((PySem.W.clsIn K C).isSome && PySem.W.typeIn K (.ref C) == some (.type "type")) = true then PySem.W.subIn K (.ref D) (.ref C) else none) = some b
  rw [if_pos e]
  exact s
theorem kit_cl_self {K : PySem.W.Frag} {C : Addr} : PySem.W.kitOne K (.ref C) (.ref C) = some true := by
  unfold PySem.W.kitOne
  rw [if_pos (beq_self_eq_true _)]
theorem lk_own {f : Str} {v : V} {r : List (Str × V)} : List.lookup f ((f, v) :: r) = some v := by
  rw [List.lookup_cons]
  simp
theorem lk_not {f g : Str} {v : V} (h : (f == g) = false) : List.lookup f [(g, v)] = none := by
  rw [List.lookup_cons, h]
  rfl
end Pb
set_option Elab.async false
set_option linter.all false
set_option maxRecDepth 100000
set_option maxHeartbeats 4000000
/-! sets of tuples of ints up to some thousands of members: the library's tables of 8, 32 and 128 places, carried on to 8192 -/
namespace Pb
open PySem PySem.Spec PyProof.Rows L2

/-! ### i -> 5 i + 1 goes through all rests by a power of two -/
def g5 : Nat → Nat
  | 0 => 0
  | n + 1 => 5 * g5 n + 1
theorem pow5 : ∀ n, 5 ^ n = 4 * g5 n + 1
  | 0 => rfl
  | n + 1 => by
    rw [Nat.pow_succ, pow5 n]
    show (4 * g5 n + 1) * 5 = 4 * (5 * g5 n + 1) + 1
    omega
theorem g5_add (c : Nat) : ∀ e, g5 (c + e) = 5 ^ e * g5 c + g5 e
  | 0 => by
    show g5 c = 5 ^ 0 * g5 c + 0
    rw [Nat.pow_zero, Nat.one_mul, Nat.add_zero]
  | e + 1 => by
    show 5 * g5 (c + e) + 1 = 5 ^ (e + 1) * g5 c + (5 * g5 e + 1)
    rw [g5_add c e, Nat.pow_succ]
    generalize 5 ^ e = p
    have : p * 5 * g5 c = 5 * (p * g5 c) := by rw [Nat.mul_comm p 5, Nat.mul_assoc]
    omega
theorem g5_par : ∀ n, g5 n % 2 = n % 2
  | 0 => rfl
  | n + 1 => by
    have ih := g5_par n
    show (5 * g5 n + 1) % 2 = (n + 1) % 2
    omega
theorem g5_two (n : Nat) : g5 (2 * n) = 2 * (g5 n * (2 * g5 n + 1)) := by
  rw [Nat.two_mul, g5_add, pow5]
  generalize g5 n = x
  have : (4 * x + 1) * x + x = 4 * (x * x) + 2 * x := by
    rw [Nat.add_mul, Nat.one_mul, Nat.mul_assoc]
    omega
  have e2 : x * (2 * x + 1) = 2 * (x * x) + x := by
    rw [Nat.mul_add, Nat.mul_one, Nat.mul_left_comm]
  omega
theorem odd_drop : ∀ (k a b : Nat), 2 ^ k ∣ a * (2 * b + 1) → 2 ^ k ∣ a
  | 0, a, _, _ => by
    rw [Nat.pow_zero]
    exact Nat.one_dvd a
  | k + 1, a, b, h => by
    obtain ⟨c, hc⟩ := h
    have e : a * (2 * b + 1) = 2 * (a * b) + a := by
      rw [Nat.mul_add, Nat.mul_one, Nat.mul_left_comm]
    have e2 : 2 ^ (k + 1) * c = 2 * (2 ^ k * c) := by
      rw [Nat.pow_succ, Nat.mul_comm (2 ^ k) 2, Nat.mul_assoc]
    obtain ⟨a', rfl⟩ : ∃ a', a = 2 * a' := ⟨a / 2, by omega⟩
    have hd : 2 ^ k ∣ a' * (2 * b + 1) := ⟨c, by
      have e3 : 2 * a' * (2 * b + 1) = 2 * (a' * (2 * b + 1)) := Nat.mul_assoc 2 a' _
      omega⟩
    obtain ⟨d, hd⟩ := odd_drop k a' b hd
    exact ⟨d, by rw [hd, Nat.pow_succ, Nat.mul_comm (2 ^ k) 2, Nat.mul_assoc]⟩
theorem g5_dvd : ∀ (k e : Nat), 2 ^ k ∣ g5 e → 2 ^ k ∣ e
  | 0, e, _ => by
    rw [Nat.pow_zero]
    exact Nat.one_dvd e
  | k + 1, e, h => by
    have even : g5 e % 2 = 0 := by
      obtain ⟨c, hc⟩ := h
      rw [Nat.pow_succ, Nat.mul_comm (2 ^ k) 2, Nat.mul_assoc] at hc
      omega
    have p := g5_par e
    obtain ⟨f, rfl⟩ : ∃ f, e = 2 * f := ⟨e / 2, by omega⟩
    rw [g5_two, Nat.pow_succ, Nat.mul_comm (2 ^ k) 2] at h
    have h1 : 2 ^ k ∣ g5 f * (2 * g5 f + 1) := Nat.dvd_of_mul_dvd_mul_left (by decide) h
    obtain ⟨d, hd⟩ := g5_dvd k f (odd_drop k _ _ h1)
    exact ⟨d, by rw [Nat.pow_succ, Nat.mul_comm (2 ^ k) 2, Nat.mul_assoc, ← hd]⟩
theorem lcgI_val {m i : Nat} (hi : i ≤ m) : ∀ c, lcgI m i c = (5 ^ c * i + g5 c) % (m + 1)
  | 0 => by
    show i = (5 ^ 0 * i + 0) % (m + 1)
    rw [Nat.pow_zero, Nat.one_mul, Nat.add_zero, Nat.mod_eq_of_lt (Nat.lt_succ_of_le hi)]
  | c + 1 => by
    show (lcgI m i c * 5 + 1) % (m + 1) = _
    rw [lcgI_val hi c]
    have e : 5 ^ (c + 1) * i + g5 (c + 1) = (5 ^ c * i + g5 c) * 5 + 1 := by
      rw [Nat.pow_succ]
      show 5 ^ c * 5 * i + (5 * g5 c + 1) = _
      have : 5 ^ c * 5 * i = 5 * (5 ^ c * i) := by rw [Nat.mul_comm (5 ^ c) 5, Nat.mul_assoc]
      omega
    rw [e, Nat.add_mod ((5 ^ c * i + g5 c) * 5), Nat.mul_mod (5 ^ c * i + g5 c) 5, Nat.add_mod, Nat.mul_mod]
    simp only [Nat.mod_mod]
theorem lcg_apart {m k i c d : Nat} (hm : m + 1 = 2 ^ k) (hi : i ≤ m) (h : c < d) (hd : d ≤ m) : lcgI m i c ≠ lcgI m i d := by
  intro e
  rw [lcgI_val hi, lcgI_val hi] at e
  obtain ⟨t, rfl⟩ : ∃ t, d = c + t := ⟨d - c, by omega⟩
  rw [g5_add, Nat.pow_add] at e
  have e1 : 5 ^ c * 5 ^ t * i + (5 ^ t * g5 c + g5 t) = 5 ^ t * (5 ^ c * i + g5 c) + g5 t := by
    rw [Nat.mul_add]
    have : 5 ^ c * 5 ^ t * i = 5 ^ t * (5 ^ c * i) := by rw [Nat.mul_comm (5 ^ c) (5 ^ t), Nat.mul_assoc]
    omega
  rw [e1] at e
  generalize 5 ^ c * i + g5 c = v at e
  have e2 : 5 ^ t * v + g5 t = v + g5 t * (2 * (2 * v) + 1) := by
    rw [pow5, Nat.add_mul, Nat.one_mul, Nat.mul_add, Nat.mul_one]
    have : 4 * g5 t * v = g5 t * (2 * (2 * v)) := by
      rw [← Nat.mul_assoc 2 2 v, ← Nat.mul_assoc, Nat.mul_comm (g5 t)]
    omega
  rw [e2] at e
  have dv : m + 1 ∣ g5 t * (2 * (2 * v) + 1) := by
    have := Nat.sub_mod_eq_zero_of_mod_eq (m := v + g5 t * (2 * (2 * v) + 1)) (n := v) (k := m + 1) e.symm
    rw [Nat.add_sub_cancel_left] at this
    exact Nat.dvd_of_mod_eq_zero this
  rw [hm] at dv
  have := g5_dvd k t (odd_drop k _ _ dv)
  have := Nat.le_of_dvd (by omega) this
  omega
theorem lcg_full {m k i j : Nat} (hm : m + 1 = 2 ^ k) (hi : i ≤ m) (hj : j ≤ m) : ∃ c, c ≤ m ∧ lcgI m i c = j := by
  rcases Classical.em (∃ c, c ≤ m ∧ lcgI m i c = j) with c | c
  · exact c
  · exfalso
    have nd : ((List.range (m + 1)).map (lcgI m i)).Nodup := by
      rw [List.nodup_iff_pairwise_ne, List.pairwise_map]
      refine List.Pairwise.imp_of_mem (fun {a b} _ hb hab => ?_) (List.pairwise_lt_range (n := m + 1))
      have := List.mem_range.mp hb
      exact lcg_apart hm hi hab (by omega)
    have le := nat_nodup_len _ ((List.range (m + 1)).erase j) nd (fun x hx => by
      obtain ⟨a, ha, e⟩ := List.mem_map.mp hx
      have hxm : x < m + 1 := by
        rw [← e, lcgI_val hi]
        exact Nat.mod_lt _ (Nat.succ_pos m)
      have hne : x ≠ j := fun z => c ⟨a, Nat.le_of_lt_succ (List.mem_range.mp ha), e.trans z⟩
      exact (List.mem_erase_of_ne hne).2 (List.mem_range.mpr hxm))
    rw [List.length_map, List.length_range, List.length_erase_of_mem (List.mem_range.mpr (Nat.lt_succ_of_le hj)), List.length_range] at le
    omega

/-! ### the masks -/
def MB (m : Nat) : Prop := m = 7 ∨ m = 31 ∨ m = 127 ∨ m = 511 ∨ m = 2047 ∨ m = 8191
theorem MB.pow {m : Nat} (h : MB m) : ∃ k, m + 1 = 2 ^ k := by
  rcases h with e | e | e | e | e | e
  · exact ⟨3, by subst e; rfl⟩
  · exact ⟨5, by subst e; rfl⟩
  · exact ⟨7, by subst e; rfl⟩
  · exact ⟨9, by subst e; rfl⟩
  · exact ⟨11, by subst e; rfl⟩
  · exact ⟨13, by subst e; rfl⟩
theorem MB.odd {m : Nat} (h : MB m) : m % 2 = 1 := by
  rcases h with e | e | e | e | e | e <;> subst e <;> rfl
theorem MB.le {m : Nat} (h : MB m) : m ≤ 8191 := by
  rcases h with e | e | e | e | e | e <;> omega
/-- each place begins a run soon enough -/
theorem meets {m : Nat} (hm : MB m) (h : Int) {j : Nat} (hj : j ≤ m) : ∃ n, n ≤ m + 12 ∧ runI m (SetTable.bits h) n = j := by
  obtain ⟨k, hk⟩ := hm.pow
  obtain ⟨c, hc, e⟩ := lcg_full hk (runI_le m (SetTable.bits h) 12) hj
  refine ⟨12 + c, by omega, ?_⟩
  rw [runI_tail (L2.bits_lt h), e]
theorem within (m : Nat) (h : Int) (k : Nat) : way m h k ≤ m := by
  have i0 : SetTable.bits h % (m + 1) ≤ m := Nat.le_of_lt_succ (Nat.mod_lt _ (Nat.succ_pos m))
  obtain ⟨r1, r2, _⟩ := runEnd_bd i0
  have q := nth_in (m := m) k (runAt m (SetTable.bits h % (m + 1)) (SetTable.bits h)) (by
    show SetTable.bits h % (m + 1) + (SetTable.runEnd m (SetTable.bits h % (m + 1)) - SetTable.bits h % (m + 1)) ≤ m
    omega)
  exact Nat.le_trans (Nat.le_add_right _ _) q
/-- a place that is free is met, the first such one early -/
theorem first_free {m : Nat} (hm : MB m) (h : Int) (occ : Nat → Prop) {j : Nat} (hj : j ≤ m) (hf : ¬ occ j) :
    ∃ K n, n ≤ m + 12 ∧ K ≤ off m (SetTable.bits h % (m + 1)) (SetTable.bits h) n ∧ K ≤ 10 * n ∧ ¬ occ (way m h K) ∧ ∀ k, k < K → occ (way m h k) := by
  obtain ⟨n, hn, e⟩ := meets hm h hj
  obtain ⟨q, hq, eq⟩ := run_nth m (SetTable.bits h) n
  have z1 : way m h q = j := by
    show (nth m (runAt m _ _) q).j = j
    rw [eq]
    exact e
  have z2 : way m h (off m (SetTable.bits h % (m + 1)) (SetTable.bits h) n) = j := by
    show (nth m (runAt m _ _) _).j = j
    rw [nth_off, itL_run]
    exact e
  obtain ⟨K, k1, k2, k3⟩ := st_least (p := fun k => ¬ occ (way m h k)) (min q (off m (SetTable.bits h % (m + 1)) (SetTable.bits h) n)) (by
    rcases Nat.le_total q (off m (SetTable.bits h % (m + 1)) (SetTable.bits h) n) with c | c
    · rw [Nat.min_eq_left c, z1]
      exact hf
    · rw [Nat.min_eq_right c, z2]
      exact hf)
  refine ⟨K, n, hn, Nat.le_trans k1 (Nat.min_le_right _ _), Nat.le_trans k1 (Nat.le_trans (Nat.min_le_left _ _) hq), k2, fun k hk => ?_⟩
  rcases Classical.em (occ (way m h k)) with c | c
  · exact c
  · exact absurd c (k3 k hk)

/-! ### the table's word -/
structure TabG (t : SetTable) (hs : List Int) : Prop where
  ris : Ris t.place.toList
  dm : t.dummies = #[]
  sz : t.place.size = hs.length
  mb : MB t.mask
  bd : ∀ x ∈ t.place.toList, x ≤ t.mask
  reach : ∀ (i : Nat) (h : Int) (j : Nat), hs[i]? = some h → t.place.toList[i]? = some j → ∃ k, way t.mask h k = j ∧ ∀ q, q < k → way t.mask h q ∈ t.place.toList
theorem TabG.len {t : SetTable} {hs : List Int} (T : TabG t hs) : t.place.toList.length = hs.length := T.sz
theorem TabG.first {t : SetTable} {hs : List Int} (T : TabG t hs) (hl : hs.length ≤ t.mask) (h : Int) :
    ∃ K, K < 10 * SetTable.turns t.mask ∧ way t.mask h K ∉ t.place.toList ∧ ∀ k, k < K → way t.mask h k ∈ t.place.toList := by
  obtain ⟨j, hj, hn⟩ := st_missing t.place.toList (t.mask + 1) (by rw [T.len]; omega)
  obtain ⟨K, n, h1, _, h2, h3, h4⟩ := first_free T.mb h (· ∈ t.place.toList) (Nat.le_of_lt_succ hj) hn
  exact ⟨K, by unfold SetTable.turns; omega, h3, h4⟩
theorem TabG.before {t : SetTable} {hs : List Int} (T : TabG t hs) {h : Int} {K i j : Nat} (hK : way t.mask h K ∉ t.place.toList) (hi : hs[i]? = some h) (hj : t.place.toList[i]? = some j) : ∃ k, k < K ∧ way t.mask h k = j := by
  obtain ⟨k, e, hb⟩ := T.reach i h j hi hj
  refine ⟨k, Nat.lt_of_not_le fun c => ?_, e⟩
  rcases Nat.lt_or_eq_of_le c with c | c
  · exact hK (hb K c)
  · rw [c, e] at hK
    exact hK (List.mem_of_getElem? hj)
/-- one more, at the first free place of its way -/
theorem TabG.put {t : SetTable} {hs : List Int} (T : TabG t hs) {h : Int} {K p : Nat} (hK : way t.mask h K ∉ t.place.toList) (hb : ∀ k, k < K → way t.mask h k ∈ t.place.toList)
    (hp : SetTable.below t.place (way t.mask h K) = p) : p ≤ hs.length ∧ TabG (t.put (way t.mask h K)).1 (hs.take p ++ h :: hs.drop p) := by
  obtain ⟨j, hj⟩ : ∃ j, j = way t.mask h K := ⟨_, rfl⟩
  have cut := (below_cut T.ris j).1
  have jm : j ≤ t.mask := by
    rw [hj]
    exact within _ _ _
  rw [← hj] at hK hp ⊢
  rw [hp] at cut
  have lp : p ≤ t.place.toList.length := cut
  have lh : p ≤ hs.length := T.len ▸ lp
  have new := put_place t j
  rw [hp] at new
  have mono : ∀ {x : Nat}, x ∈ t.place.toList → x ∈ (t.put j).1.place.toList := fun {x} hx => by
    rw [new]
    exact mem_ins.2 (Or.inr hx)
  have fresh : t.place[SetTable.below t.place j]? ≠ some j := fun e => by
    refine hK (List.mem_of_getElem? (i := SetTable.below t.place j) ?_)
    rw [Array.getElem?_toList]
    exact e
  refine ⟨lh, ris_insert T.ris fresh, put_dm T.dm j, ?_, T.mb, ?_, ?_⟩
  · show (t.put j).1.place.toList.length = _
    rw [new, len_ins _ lp, len_ins _ lh, T.len]
  · intro x hx
    rw [new] at hx
    rcases mem_ins.1 hx with z | z
    · exact z ▸ jm
    · exact T.bd x z
  · intro i u v h1 h2
    show ∃ k, way t.mask u k = v ∧ ∀ q, q < k → way t.mask u q ∈ (t.put j).1.place.toList
    rw [new, tins_get _ lp] at h2
    rw [tins_get _ lh] at h1
    have old : ∀ i', hs[i']? = some u → t.place.toList[i']? = some v → ∃ k, way t.mask u k = v ∧ ∀ q, q < k → way t.mask u q ∈ (t.put j).1.place.toList := fun i' a b => by
      obtain ⟨k, e, z⟩ := T.reach i' u v a b
      exact ⟨k, e, fun q hq => mono (z q hq)⟩
    rcases Nat.lt_trichotomy i p with c | c | c
    · rw [if_pos c] at h1 h2
      exact old i h1 h2
    · rw [if_neg (by omega), if_pos c] at h1 h2
      obtain rfl := Option.some.inj h1
      obtain rfl := Option.some.inj h2
      exact ⟨K, hj.symm, fun q hq => mono (hb q hq)⟩
    · rw [if_neg (by omega), if_neg (by omega)] at h1 h2
      exact old _ h1 h2

/-! ### laid anew -/
theorem lay_one {m : Nat} (hm : MB m) {done : List Int} {owner : Array (Option Nat)} (W : Own m done owner) (hl : done.length ≤ m) (h : Int) :
    ∃ j, SetTable.layClean.free m owner (SetTable.turns m) (SetTable.bits h % (m + 1)) (SetTable.bits h) = some j ∧ Own m (done ++ [h]) (owner.setIfInBounds j (some done.length)) := by
  obtain ⟨ps, lps, allps⟩ := W.ps
  obtain ⟨j0, b0, n0⟩ := st_missing ps (m + 1) (by omega)
  have f0 : oAt owner j0 = none := by
    rcases Option.eq_none_or_eq_some (oAt owner j0) with z | ⟨k, z⟩
    · exact z
    · exact absurd (allps j0 (Nat.le_of_lt_succ b0) (fun e => by rw [z] at e; cases e)) n0
  obtain ⟨K, n, hn, hoff, _, kf, kb⟩ := first_free hm h (fun j => oAt owner j ≠ none) (Nat.le_of_lt_succ b0) (fun e => e f0)
  have kf : oAt owner (way m h K) = none := Classical.not_not.mp kf
  have found : SetTable.layClean.free m owner (SetTable.turns m) (SetTable.bits h % (m + 1)) (SetTable.bits h) = some (way m h K) := by
    refine free_spec m owner (SetTable.turns m) n _ _ K (by unfold SetTable.turns; omega) hoff (fun k hk => ?_) ?_
    · rcases Option.eq_none_or_eq_some (oAt owner (way m h k)) with z | ⟨q, z⟩
      · exact absurd z (kb k hk)
      · show (oAt owner (way m h k)).isNone = false
        rw [z]
        rfl
    · show (oAt owner (way m h K)).isNone = true
      rw [kf]
      rfl
  have km := within m h K
  have ks : way m h K < owner.size := by
    rw [W.sz]
    omega
  have self := oAt_set_self (owner := owner) (some done.length) ks
  refine ⟨way m h K, found, ?_⟩
  have stay : ∀ i, i ≠ way m h K → oAt (owner.setIfInBounds (way m h K) (some done.length)) i = oAt owner i := fun i hi => oAt_set_ne _ hi
  have mono : ∀ i, oAt owner i ≠ none → oAt (owner.setIfInBounds (way m h K) (some done.length)) i ≠ none := fun i hi => by
    by_cases c : i = way m h K
    · rw [c, self]
      exact Option.some_ne_none _
    · rw [stay i c]
      exact hi
  constructor
  · rw [Array.size_setIfInBounds]
    exact W.sz
  · intro j k hj e
    by_cases c : j = way m h K
    · rw [c, self] at e
      obtain rfl := Option.some.inj e
      exact ⟨h, K, by simp, c.symm, fun q hq => mono _ (kb q hq)⟩
    · rw [stay j c] at e
      obtain ⟨u, q, a1, a2, a3⟩ := W.at_ j k hj e
      refine ⟨u, q, ?_, a2, fun r hr => mono _ (a3 r hr)⟩
      rw [List.getElem?_append_left (List.getElem?_eq_some_iff.mp a1).1, a1]
  · intro k hk
    rw [List.length_append, List.length_singleton] at hk
    rcases Nat.lt_or_eq_of_le (Nat.le_of_lt_succ hk) with c | c
    · obtain ⟨j, hj, e⟩ := W.all k c
      refine ⟨j, hj, ?_⟩
      rw [stay j (fun z => by rw [z, kf] at e; cases e), e]
    · exact ⟨way m h K, km, by rw [self, c]⟩
  · refine ⟨way m h K :: ps, by simp [lps], fun j hj e => ?_⟩
    by_cases c : j = way m h K
    · exact c ▸ List.mem_cons_self
    · rw [stay j c] at e
      exact List.mem_cons_of_mem _ (allps j hj e)
theorem lay_all {m : Nat} (hm : MB m) : ∀ (rest done : List Int) (owner : Array (Option Nat)), Own m done owner → done.length + rest.length ≤ m →
    ∃ o', rest.foldl (stepF m) (some (owner, done.length)) = some (o', (done ++ rest).length) ∧ Own m (done ++ rest) o'
  | [], done, owner, W, _ => ⟨owner, by simp, by simpa using W⟩
  | h :: rest, done, owner, W, hl => by
    simp only [List.length_cons] at hl
    obtain ⟨j, e, W1⟩ := lay_one hm W (by omega) h
    obtain ⟨o', f, W2⟩ := lay_all hm rest (done ++ [h]) _ W1 (by simp; omega)
    refine ⟨o', ?_, by simpa using W2⟩
    rw [List.foldl_cons, stepF_some e]
    simpa using f
theorem lay_table (t : SetTable) {hs : Array Int} {wanted M : Nat} (hw : SetTable.sizeAbove wanted - 1 = M) (hM : MB M) (hn : hs.size ≤ M) :
    ∃ t' order, t.relaid hs wanted = some (t', order) ∧ order.toList.Perm (List.range hs.size) ∧ TabG t' (order.toList.map fun i => hs.getD i 0) ∧ t'.mask = M ∧ t'.led = t.led ∧ t'.plain = t.plain := by
  obtain ⟨owner, f, W⟩ := lay_all hM hs.toList [] _ (Own.init M) (by simpa using hn)
  rw [List.nil_append] at W
  have lay : SetTable.layClean M hs = some owner := by
    rw [layClean_eq]
    have f' : hs.toList.foldl (stepF M) (some (Array.replicate (M + 1) none, 0)) = some (owner, ([] ++ hs.toList).length) := f
    rw [f']
    rfl
  have e : t.relaid hs wanted = some (tabOf t M owner, ((liveOf M owner).map (·.2)).toArray) := by
    rw [relaid_eq, hw, lay]
    rfl
  obtain ⟨r1, r2⟩ := ris_live (fun j => owner.getD j none) (List.range (M + 1)) List.pairwise_lt_range
  have r1 : Ris ((liveOf M owner).map (·.1)) := r1
  have r2 : ∀ x ∈ (liveOf M owner).map (·.1), x ∈ List.range (M + 1) := r2
  have live : ∀ {j k : Nat}, (j, k) ∈ liveOf M owner → j ≤ M ∧ oAt owner j = some k := fun {j k} z => (mem_live W.sz).1 z
  have count : (liveOf M owner).length = hs.size := by
    obtain ⟨ps, p1, p2⟩ := W.ps
    have up := nat_nodup_len ((liveOf M owner).map (·.1)) ps (List.nodup_iff_pairwise_ne.mpr (r1.imp fun z => Nat.ne_of_lt z)) fun x hx => by
      obtain ⟨⟨y, k⟩, hq, rfl⟩ := List.mem_map.mp hx
      obtain ⟨b1, b2⟩ := live hq
      exact p2 y b1 (by rw [b2]; exact Option.some_ne_none k)
    have down := nat_nodup_len (List.range hs.size) ((liveOf M owner).map (·.2)) List.nodup_range fun k hk => by
      obtain ⟨j, b1, b2⟩ := W.all k (List.mem_range.mp hk)
      exact List.mem_map.mpr ⟨(j, k), (mem_live W.sz).2 ⟨b1, b2⟩, rfl⟩
    simp only [List.length_map, List.length_range] at up down
    have : ps.length = hs.size := p1
    omega
  refine ⟨tabOf t M owner, ((liveOf M owner).map (·.2)).toArray, e, ?_, ⟨r1, rfl, ?_, hM, fun x hx => ?_, ?_⟩, rfl, rfl, rfl⟩
  · refine perm_range hs.size _ ?_ fun k hk => ?_
    · show ((liveOf M owner).map (·.2)).length = hs.size
      rw [List.length_map, count]
    · obtain ⟨j, b1, b2⟩ := W.all k hk
      exact List.mem_map.mpr ⟨(j, k), (mem_live W.sz).2 ⟨b1, b2⟩, rfl⟩
  · show ((liveOf M owner).map (·.1)).length = (((liveOf M owner).map (·.2)).map fun i => hs.getD i 0).length
    simp only [List.length_map]
  · exact Nat.le_of_lt_succ (List.mem_range.mp (r2 x hx))
  · intro i h j h1 h2
    have h1 : (((liveOf M owner).map (·.2)).map fun i => hs.getD i 0)[i]? = some h := h1
    have h2 : ((liveOf M owner).map (·.1))[i]? = some j := h2
    show ∃ k, way M h k = j ∧ ∀ q, q < k → way M h q ∈ (liveOf M owner).map (·.1)
    rcases Option.eq_none_or_eq_some ((liveOf M owner)[i]?) with z | ⟨⟨y, k⟩, z⟩
    · simp [z] at h2
    · simp only [List.getElem?_map, z, Option.map_some, Option.some.injEq] at h1 h2
      subst h2
      obtain ⟨b1, b2⟩ := live (List.mem_of_getElem? z)
      obtain ⟨u, q, a1, a2, a3⟩ := W.at_ y k b1 b2
      have eu : hs.getD k 0 = u := by
        rw [Array.getD_eq_getD_getElem?, ← Array.getElem?_toList, a1]
        rfl
      rw [← h1, eu]
      refine ⟨q, a2, fun r hr => ?_⟩
      rcases Option.eq_none_or_eq_some (oAt owner (way M u r)) with w | ⟨k2, w⟩
      · exact absurd w (a3 r hr)
      · exact List.mem_map.mpr ⟨(way M u r, k2), (mem_live W.sz).2 ⟨within _ _ _, w⟩, rfl⟩

/-! ### the set -/
structure BigS (P : Program) (w : World) (h : Heap) (a : Addr) (L : List (Addr × List Int)) (es : Array (Int × Value)) (ep : Nat) (t : SetTable) : Prop where
  ob : ∃ o, h.get? a = some o ∧ o.ExactSet ∧ o.data = .set es ep t
  rows : es.toList = rowsOf P w L
  tab : TabG t (L.map fun p => thash P w p.2)
  nd : (L.map (·.2)).Nodup
  plain : t.plain = true
  led : w.params.followText "set-order" = true ∨ t.led = true
  room : L.length * 5 < t.mask * 3
section
variable {P : Program} {w : World} {A : Around} {E : Value → Shared → Prop} {s : Shared} {a : Addr} {L : List (Addr × List Int)} {es : Array (Int × Value)} {ep : Nat} {t : SetTable}
theorem BigS.size {h : Heap} (R : BigS P w h a L es ep t) : es.size = L.length := by
  have q := congrArg List.length R.rows
  unfold rowsOf at q
  simpa using q
theorem BigS.places {h : Heap} (R : BigS P w h a L es ep t) : t.place.toList.length = L.length := by
  rw [R.tab.len, List.length_map]
theorem BigS.fits {h : Heap} (R : BigS P w h a L es ep t) : t.fits es.size = true := by
  have h1 : t.place.size = L.length := R.places
  have h2 := R.size
  have h3 := R.room
  unfold SetTable.fits SetTable.fill
  rw [R.tab.dm, h1, h2]
  simp
  omega
theorem BigS.at_ {h : Heap} (R : BigS P w h a L es ep t) {i : Nat} {p : Addr × List Int} (e : L[i]? = some p) : es[i]? = some (thash P w p.2, Value.ref p.1) := by
  have q := congrArg (·[i]?) R.rows
  unfold rowsOf at q
  simp only [Array.getElem?_toList, List.getElem?_map, e, Option.map_some] at q
  exact q
theorem BigS.keep {h h' : Heap} (R : BigS P w h a L es ep t) (k : ∀ o, h.get? a = some o → h'.get? a = some o) : BigS P w h' a L es ep t := by
  obtain ⟨o, ho, r⟩ := R.ob
  exact ⟨⟨o, k o ho, r⟩, R.rows, R.tab, R.nd, R.plain, R.led, R.room⟩
abbrev nthP (t : SetTable) (h : Int) (c : Nat) : SetTable.Probe := nth t.mask (runAt t.mask (SetTable.bits h % (t.mask + 1)) (SetTable.bits h)) c
theorem nthP_dummy (t : SetTable) (h : Int) (c : Nat) : (nthP t h c).dummy = none := by
  have key : ∀ (n : Nat) (p : SetTable.Probe), p.dummy = none → (nth t.mask p n).dummy = none := fun n => by
    induction n with
    | zero => exact fun _ z => z
    | succ n ih =>
      intro p z
      refine ih (adv t.mask p) ?_
      unfold adv
      split <;> exact z
  exact key c _ rfl
/-- how a search ends -/
def Ended (L : List (Addr × List Int)) (k : List Int) (adding : Bool) (slot : Nat) (r : SetFound) : Prop :=
  (k ∈ L.map (·.2) ∧ ((adding = true ∧ r = .there none) ∨ (adding = false ∧ ∃ i, r = .there (some i)))) ∨ (k ∉ L.map (·.2) ∧ r = .free slot false)
/-- the search, from the c-th step of the way on -/
theorem walk_on (R : BigS P w s.heap a L es ep t) (tup : ∀ p ∈ L, IsT P w s.heap p.2 p.1) {x : Addr} {k : List Int} (hx : IsT P w s.heap k x) (hu : A.units < cLine) (adding : Bool) {K : Nat} (hKf : K < 10 * SetTable.turns t.mask)
    (hK : way t.mask (thash P w k) K ∉ t.place.toList) (hb : ∀ c, c < K → way t.mask (thash P w k) c ∈ t.place.toList) {Q : SetFound → Shared → Prop} (hQ : ∀ r, Ended L k adding (way t.mask (thash P w k) K) r → Q r s) :
    ∀ (f c : Nat) (stand : Option SetTable.Probe), stand.getD (t.probeStart (thash P w k)) = nthP t (thash P w k) c → c ≤ K → K - c < f →
      (∀ (i : Nat) p, L[i]? = some p → p.2 = k → ∃ d, c ≤ d ∧ d < K ∧ t.place.toList[i]? = some (way t.mask (thash P w k) d)) →
      wpAny (model P w) A (setSearchFrom a (.ref x) (thash P w k) adding f stand) Q E s
  | 0, _, _, _, _, hf, _ => absurd hf (Nat.not_lt_zero _)
  | f + 1, c, stand, hst, hc, hf, ahead => by
    obtain ⟨o, ho, hex, hd⟩ := R.ob
    rw [setSearchFrom_succ]
    refine wpAny_bind (wpAny_setState_of ho hd R.fits ?_)
    dsimp only
    refine wp_if_neg (show ¬ t.gaveWay = true by unfold SetTable.gaveWay; rw [R.tab.mb.odd]; decide) ?_
    try refine wpAny_bind (wpAny_pure ?_)
    have shift : ∀ q, nth t.mask (nthP t (thash P w k) c) q = nthP t (thash P w k) (c + q) := fun q => (nth_add t.mask c _ q).symm
    have place : ∀ q, (nth t.mask (nthP t (thash P w k) c) q).j = way t.mask (thash P w k) (c + q) := fun q => congrArg SetTable.Probe.j (shift q)
    have last : c + (K - c) = K := by omega
    have hash_of : ∀ (i : Nat) p, L[i]? = some p → (es[i]?.map (·.1)).getD 0 = thash P w p.2 := fun i p e => by
      rw [R.at_ e]
      rfl
    rcases go_spec t R.tab.ris R.tab.dm (fun i => (es[i]?.map (·.1)).getD 0) (thash P w k) (10 * SetTable.turns t.mask) (K - c) (nthP t (thash P w k) c) (nthP_dummy t _ c) (by omega)
        (fun q hq => by rw [place]; exact hb _ (by omega)) (by rw [place, last]; exact hK) with ⟨q, i, hq, hi, hh, none_yet, met⟩ | ⟨none_yet, met⟩
    · -- one of the same hash
      rw [place] at hi met
      rw [shift] at met
      have met : t.probe (fun i => (es[i]?.map (·.1)).getD 0) (thash P w k) (stand.getD (t.probeStart (thash P w k))) = some (.candidate (way t.mask (thash P w k) (c + q)) i (nthP t (thash P w k) (c + (q + 1)))) := by
        rw [hst]
        exact met
      rw [met]
      dsimp only
      have il : i < L.length := by
        rw [← R.places]
        exact (List.getElem?_eq_some_iff.mp hi).1
      obtain ⟨p, hp⟩ : ∃ p, L[i]? = some p := ⟨_, List.getElem?_eq_getElem il⟩
      have pm : p ∈ L := List.mem_of_getElem? hp
      have live : t.slot (way t.mask (thash P w k) (c + q)) = .live i := slot_live R.tab.ris hi
      have behind : wpAny (model P w) A (searchRest a (.ref x) (thash P w k) adding f es t (way t.mask (thash P w k) (c + q)) i (nthP t (thash P w k) (c + (q + 1)))) Q E s := by
        unfold searchRest
        rw [R.at_ hp]
        dsimp only
        refine wpAny_bind (wpAny_holding (wpAny_eqBool_tuple hu (tup p pm) hx ?_))
        refine wpAny_bind (wpAny_setState_of ho hd R.fits ?_)
        dsimp only
        by_cases same : p.2 = k
        · have inL : k ∈ L.map (·.2) := List.mem_map.mpr ⟨p, pm, same⟩
          cases adding with
          | true =>
            refine wp_if_pos (by simp [same]) ?_
            exact wpAny_pure (hQ _ (.inl ⟨inL, .inl ⟨rfl, rfl⟩⟩))
          | false =>
            refine wp_if_neg (by simp) ?_
            try refine wpAny_bind (wpAny_pure ?_)
            rw [sameMem]
            dsimp only
            simp only [if_true, live, R.at_ hp]
            refine wpAny_bind (wpAny_isSame_ref_self (wpAny_bind (wpAny_pure ?_)))
            simp only [if_true]
            refine wp_if_pos (by simp [same]) ?_
            exact wpAny_pure (hQ _ (.inl ⟨inL, .inr ⟨rfl, i, rfl⟩⟩))
        · refine wp_if_neg (by simp [same]) ?_
          try refine wpAny_bind (wpAny_pure ?_)
          rw [sameMem]
          dsimp only
          simp only [if_true, live, R.at_ hp]
          refine wpAny_bind (wpAny_isSame_ref_self (wpAny_bind (wpAny_pure ?_)))
          simp only [if_true]
          refine wp_if_neg (by simp [same]) ?_
          refine walk_on R tup hx hu adding hKf hK hb hQ f (c + (q + 1)) _ rfl (by omega) (by omega) fun i0 p0 h0 e0 => ?_
          obtain ⟨d, d1, d2, d3⟩ := ahead i0 p0 h0 e0
          refine ⟨d, Nat.lt_of_not_le fun z => ?_, d2, d3⟩
          have z : d ≤ c + q := z
          have h0' := hash_of i0 p0 h0
          rw [e0] at h0'
          rcases Nat.lt_or_eq_of_le z with z | z
          · refine none_yet (d - c) i0 (by omega) ?_ h0'
            rw [place, show c + (d - c) = d by omega]
            exact d3
          · rw [z] at d3
            have l0 := slot_live R.tab.ris d3
            rw [live] at l0
            injection l0 with l0
            rw [← l0, hp] at h0
            exact same ((congrArg Prod.snd (Option.some.inj h0)).trans e0)
      by_cases led : t.led = true
      · refine wp_if_neg (by simp [led]) ?_
        try refine wpAny_bind (wpAny_pure ?_)
        exact behind
      · refine wp_if_pos (by simp [led]) ?_
        refine wpAny_bind (seen_tup hx (fun y hy => ?_) ?_)
        · obtain ⟨e, he, rfl⟩ := List.mem_map.mp hy
          have he : e ∈ es.toList := by
            have z := (show e ∈ es ∧ e.1 = thash P w k by simpa using he).1
            simpa using z
          rw [R.rows] at he
          obtain ⟨p2, hp2, rfl⟩ := List.mem_map.mp he
          exact ⟨p2.2, p2.1, rfl, tup p2 hp2⟩
        · refine wp_if_neg (by decide) ?_
          try refine wpAny_bind (wpAny_pure ?_)
          exact behind
    · -- a free place
      rw [place, last] at met
      have met : t.probe (fun i => (es[i]?.map (·.1)).getD 0) (thash P w k) (stand.getD (t.probeStart (thash P w k))) = some (.empty (way t.mask (thash P w k) K) none) := by
        rw [hst]
        exact met
      rw [met]
      dsimp only
      refine wpAny_pure (hQ _ (.inr ⟨fun z => ?_, rfl⟩))
      obtain ⟨p0, h0, e0⟩ := List.mem_map.mp z
      obtain ⟨i0, hi0⟩ := List.mem_iff_getElem?.mp h0
      obtain ⟨d, d1, d2, d3⟩ := ahead i0 p0 hi0 e0
      have h0' := hash_of i0 p0 hi0
      rw [e0] at h0'
      refine none_yet (d - c) i0 (by omega) ?_ h0'
      rw [place, show c + (d - c) = d by omega]
      exact d3
theorem search_big (R : BigS P w s.heap a L es ep t) (tup : ∀ p ∈ L, IsT P w s.heap p.2 p.1) {x : Addr} {k : List Int} (hx : IsT P w s.heap k x) (hu : A.units < cLine) (adding : Bool) {Q : SetFound → Shared → Prop}
    (hQ : ∀ K r, way t.mask (thash P w k) K ∉ t.place.toList → (∀ c, c < K → way t.mask (thash P w k) c ∈ t.place.toList) → Ended L k adding (way t.mask (thash P w k) K) r → Q r s) :
    wpAny (model P w) A (setSearch a (.ref x) (thash P w k) adding) Q E s := by
  have room := R.room
  obtain ⟨K, k1, k2, k3⟩ := R.tab.first (by rw [List.length_map]; omega) (thash P w k)
  have fuel : K < 100000 := by
    have := R.tab.mb.le
    unfold SetTable.turns at k1
    omega
  unfold setSearch
  refine walk_on R tup hx hu adding k1 k2 k3 (fun r e => hQ K r k2 k3 e) 100000 0 none rfl (Nat.zero_le K) fuel fun i p hp e => ?_
  have hi : (L.map fun p => thash P w p.2)[i]? = some (thash P w k) := by
    rw [List.getElem?_map, hp, ← e]
    rfl
  obtain ⟨j, hj⟩ : ∃ j, t.place.toList[i]? = some j := ⟨_, List.getElem?_eq_getElem (by rw [R.places]; exact (List.getElem?_eq_some_iff.mp hp).1)⟩
  obtain ⟨d, hd, ed⟩ := R.tab.before k2 hi hj
  exact ⟨d, Nat.zero_le d, hd, by rw [hj, ed]⟩
/-- whether a tuple is in it -/
theorem find_big (R : BigS P w s.heap a L es ep t) (tup : ∀ p ∈ L, IsT P w s.heap p.2 p.1) {x : Addr} {k : List Int} (hx : IsT P w s.heap k x) (hu : A.units < cLine) {Q : Option Nat → Shared → Prop}
    (hQ : ∀ r : Option Nat, r.isSome = decide (k ∈ L.map (·.2)) → Q r s) : wpAny (model P w) A (setFind a (.ref x) (thash P w k)) Q E s := by
  obtain ⟨o, ho, hex, hd⟩ := R.ob
  unfold setFind
  rw [show (100000 : Nat) = 99999 + 1 from rfl]
  unfold setFindIn
  refine wpAny_bind (wpAny_setState_of ho hd R.fits ?_)
  dsimp only
  refine wp_if_neg (by simp [byScan, Value.scannable]) ?_
  try refine wpAny_bind (wpAny_pure ?_)
  refine wpAny_bind (search_big R tup hx hu false fun K r _ _ e => ?_)
  rcases e with ⟨e1, ⟨e2, _⟩ | ⟨_, i, e2⟩⟩ | ⟨e1, e2⟩
  · cases e2
  · subst e2
    refine wpAny_pure (hQ _ ?_)
    rw [decide_eq_true e1]
    rfl
  · subst e2
    refine wpAny_pure (hQ _ ?_)
    rw [decide_eq_false e1]
    rfl
/-- a tuple of the heap isn't the set -/
theorem tup_apart {h h' : Heap} {k : List Int} {b : Addr} (x : IsT P w h k b) (ob : ∃ o, h.get? a = some o ∧ o.ExactSet ∧ o.data = .set es ep t) (sb : Heap.SameBut a h h') : IsT P w h' k b := by
  obtain ⟨o, ho, _, hd⟩ := ob
  exact isT_same x ho hd sb
/-- laid anew, larger -/
theorem relay_big {o : Obj} (ho : s.heap.get? a = some o) (hex : o.ExactSet) (hd : o.data = .set es ep t) (rows : es.toList = rowsOf P w L) (T : TabG t (L.map fun p => thash P w p.2)) (full : L.length ≤ t.mask)
    (nd : (L.map (·.2)).Nodup) (pl : t.plain = true) (ld : w.params.followText "set-order" = true ∨ t.led = true) {wanted M : Nat}
    (hw : SetTable.sizeAbove wanted - 1 = M) (hM : MB M) (h8 : SetTable.sizeAbove wanted ≤ 8192) (hn : L.length * 5 < M * 3) {Q : Unit → Shared → Prop}
    (hQ : ∀ h' L' es' ep' t', Heap.SameBut a s.heap h' → BigS P w h' a L' es' ep' t' → L'.Perm L → Q () { s with heap := h' }) : wpAny (model P w) A (setRelay a wanted) Q E s := by
  have size : es.size = L.length := by
    have q := congrArg List.length rows
    unfold rowsOf at q
    simpa using q
  have psize : t.place.size = L.length := by
    have q := T.sz
    simpa using q
  have fits : t.fits es.size = true := by
    unfold SetTable.fits SetTable.fill
    rw [T.dm, psize, size]
    simp
    omega
  obtain ⟨t', order, e, pm, T', em, el, ep'⟩ := lay_table t (hs := es.map (·.1)) (wanted := wanted) hw hM (by rw [Array.size_map, size]; omega)
  rw [Array.size_map, size] at pm
  obtain ⟨L2, r1, r2, r3⟩ := order_rows L es order rows pm
  rw [← r3] at T'
  have size2 : (order.filterMap (es[·]?)).size = es.size := by
    have q := congrArg List.length r1
    unfold rowsOf at q
    simp only [Array.length_toList, List.length_map, r2.length_eq] at q
    rw [q, size]
  have few : L.length ≤ 8191 := by have := T.mb.le; omega
  rw [setRelay_eq]
  refine wpAny_bind (wpAny_setState_of ho hd fits ?_)
  dsimp only
  refine wp_if_neg (by rw [sizeLine_eq]; omega) ?_
  try refine wpAny_bind (wpAny_pure ?_)
  rw [e]
  dsimp only
  refine wpAny_bind ?_
  refine wp_if_neg (by rw [size2]; simp) ?_
  try refine wpAny_bind (wpAny_pure ?_)
  refine wpAny_pure ?_
  dsimp only
  refine wpAny_storeSet_of ho hd ?_ (by rw [size2, size, sizeLine_eq]; omega)
  refine hQ _ L2 (order.filterMap (es[·]?)) (ep + 1) t' (Heap.SameBut.update ..) ⟨⟨_, store_at ho hd, ⟨hex.1, hex.2.1, hex.2.2⟩, rfl⟩, r1, T', (r2.map (·.2)).nodup_iff.mpr nd, ?_, ?_, ?_⟩ r2
  · rw [ep']
    exact pl
  · rw [el]
    exact ld
  · rw [r2.length_eq, em]
    exact hn
theorem grow_8 : SetTable.sizeAbove (SetTable.grown 5) = 32 := by decide +kernel
theorem grow_32 : SetTable.sizeAbove (SetTable.grown 19) = 128 := by decide +kernel
theorem grow_128 : SetTable.sizeAbove (SetTable.grown 77) = 512 := by decide +kernel
theorem grow_512 : SetTable.sizeAbove (SetTable.grown 307) = 2048 := by decide +kernel
theorem grow_2048 : SetTable.sizeAbove (SetTable.grown 1229) = 8192 := by decide +kernel
/-- when it is full, and what comes then -/
theorem grows {m n : Nat} (h : MB m) (room : n * 5 < m * 3) (few : n + 1 ≤ 4914) (full : (n + 1) * 5 ≥ m * 3) :
    ∃ M, SetTable.sizeAbove (SetTable.grown (n + 1)) - 1 = M ∧ MB M ∧ SetTable.sizeAbove (SetTable.grown (n + 1)) ≤ 8192 ∧ (n + 1) * 5 < M * 3 := by
  rcases h with e | e | e | e | e | e
  · obtain rfl : n = 4 := by omega
    exact ⟨31, by rw [grow_8], .inr (.inl rfl), by rw [grow_8]; decide, by decide⟩
  · obtain rfl : n = 18 := by omega
    exact ⟨127, by rw [grow_32], .inr (.inr (.inl rfl)), by rw [grow_32]; decide, by decide⟩
  · obtain rfl : n = 76 := by omega
    exact ⟨511, by rw [grow_128], .inr (.inr (.inr (.inl rfl))), by rw [grow_128]; decide, by decide⟩
  · obtain rfl : n = 306 := by omega
    exact ⟨2047, by rw [grow_512], .inr (.inr (.inr (.inr (.inl rfl)))), by rw [grow_512]; decide, by decide⟩
  · obtain rfl : n = 1228 := by omega
    exact ⟨8191, by rw [grow_2048], .inr (.inr (.inr (.inr (.inr rfl)))), by rw [grow_2048]; decide, by decide⟩
  · omega
/-- a tuple is added -/
theorem add_big (R : BigS P w s.heap a L es ep t) (tup : ∀ p ∈ L, IsT P w s.heap p.2 p.1) {x : Addr} {k : List Int} (hx : IsT P w s.heap k x) (hu : A.units < cLine) (few : L.length + 1 ≤ 4914) {Q : Bool → Shared → Prop}
    (hQ : ∀ b h' L' es' ep' t', Heap.SameBut a s.heap h' → BigS P w h' a L' es' ep' t' → (k ∈ L.map (·.2) → L' = L) → (k ∉ L.map (·.2) → L'.Perm ((x, k) :: L)) → Q b { s with heap := h' }) :
    wpAny (model P w) A (setAddHashed a (.ref x) (thash P w k)) Q E s := by
  obtain ⟨o, ho, hex, hd⟩ := R.ob
  have size := R.size
  have room := R.room
  unfold setAddHashed
  refine wpAny_holding ?_
  rw [show (100000 : Nat) = 99999 + 1 from rfl, setAddHashedIn_succ]
  refine wpAny_bind (wpAny_setState_of ho hd R.fits ?_)
  dsimp only
  refine wp_if_neg (by simp [byScan, Value.scannable]) ?_
  try refine wpAny_bind (wpAny_pure ?_)
  refine wpAny_bind (search_big R tup hx hu true fun K r k1 k2 e => ?_)
  rcases e with ⟨e1, ⟨_, e2⟩ | ⟨e2, _⟩⟩ | ⟨e1, e2⟩
  · subst e2
    dsimp only
    exact wpAny_pure (hQ false s.heap L es ep t (Heap.SameBut.refl a s.heap) R (fun _ => rfl) fun z => absurd e1 z)
  · cases e2
  · subst e2
    dsimp only
    refine wpAny_bind (wpAny_setState_of ho hd R.fits ?_)
    dsimp only
    obtain ⟨p, hp⟩ : ∃ p, SetTable.below t.place (way t.mask (thash P w k) K) = p := ⟨_, rfl⟩
    obtain ⟨pl, T1⟩ := R.tab.put k1 k2 hp
    rw [List.length_map] at pl
    have e3 : (t.put (way t.mask (thash P w k) K)).2 = p := hp
    have e4 : (t.put (way t.mask (thash P w k) K)).1.mask = t.mask := rfl
    have e5 : (t.put (way t.mask (thash P w k) K)).1.led = t.led := rfl
    have e6 : (t.put (way t.mask (thash P w k) K)).1.plain = t.plain := rfl
    generalize t.put (way t.mask (thash P w k) K) = pt at T1 e3 e4 e5 e6 ⊢
    obtain ⟨t1, p1⟩ := pt
    dsimp only at T1 e3 e4 e5 e6 ⊢
    subst e3
    have plain1 : t1.plain = true := e6.trans R.plain
    have led1 : w.params.followText "set-order" = true ∨ t1.led = true := by
      rw [e5]
      exact R.led
    first
      | (refine wpAny_bind ?_; refine wp_if_pos plain1 ?_; refine hashBy_tup hx ?_)
      | refine wp_if_pos plain1 (wpAny_bind (hashBy_tup hx ?_))
    simp only [if_true]
    have rows1 : (SetTable.insertAt es p1 (thash P w k, Value.ref x)).toList = rowsOf P w (L.take p1 ++ (x, k) :: L.drop p1) := by
      rw [SetTable.toList_insertAt, rows_put, R.rows]
    have perm := put_perm L p1 (x, k)
    have maps : (L.map fun p => thash P w p.2).take p1 ++ thash P w k :: (L.map fun p => thash P w p.2).drop p1 = (L.take p1 ++ (x, k) :: L.drop p1).map fun p => thash P w p.2 := by
      simp only [List.map_append, List.map_cons, List.map_take, List.map_drop]
    rw [maps] at T1
    generalize L.take p1 ++ (x, k) :: L.drop p1 = L1 at rows1 perm T1
    generalize SetTable.insertAt es p1 (thash P w k, Value.ref x) = es1 at rows1 ⊢
    have len1 : L1.length = L.length + 1 := perm.length_eq
    have size1 : es1.size = L1.length := by
      have q := congrArg List.length rows1
      unfold rowsOf at q
      simpa using q
    have nd1 : (L1.map (·.2)).Nodup := (perm.map (·.2)).nodup_iff.mpr (by
      rw [List.map_cons]
      exact List.nodup_cons.mpr ⟨e1, R.nd⟩)
    refine wpAny_bind (wpAny_storeSet_of ho hd ?_ (by rw [size1, len1, sizeLine_eq]; omega))
    have sb : Heap.SameBut a s.heap (s.heap.update a (Obj.putSet es1 t1)) := Heap.SameBut.update ..
    have ho1 := store_at (es' := es1) (t' := t1) ho hd
    generalize s.heap.update a (Obj.putSet es1 t1) = h1 at sb ho1 ⊢
    have fill1 : t1.fill = L.length + 1 := by
      have q := T1.sz
      unfold SetTable.fill
      rw [T1.dm, q, List.length_map, len1]
      rfl
    by_cases full : t1.tooFull = true
    · first
        | (refine wpAny_bind ?_; refine wp_if_pos (by simp [full]) ?_)
        | (refine wp_if_pos (by simp [full]) ?_; refine wpAny_bind ?_)
      have q : (L.length + 1) * 5 ≥ t.mask * 3 := by
        unfold SetTable.tooFull at full
        rw [decide_eq_true_eq, fill1, e4] at full
        exact full
      obtain ⟨M, g1, g2, g3, g4⟩ := grows R.tab.mb room few q
      rw [size]
      refine relay_big (s := { s with heap := h1 }) ho1 ⟨hex.1, hex.2.1, hex.2.2⟩ rfl rows1 T1 (by rw [len1, e4]; omega) nd1 plain1 led1 g1 g2 g3 (by rw [len1]; exact g4) ?_
      intro h2 L2 es2 ep2 t2 sb2 R2 pm2
      exact wpAny_pure (hQ true h2 L2 es2 ep2 t2 (sb.trans sb2) R2 (fun z => absurd z e1) fun _ => pm2.trans perm)
    · first
        | refine wp_if_neg (by simp [full]) ?_
        | (refine wpAny_bind ?_; refine wp_if_neg (by simp [full]) ?_; refine wpAny_pure ?_)
      refine wpAny_pure (hQ true h1 L1 es1 (ep + 1) t1 sb ⟨⟨_, ho1, ⟨hex.1, hex.2.1, hex.2.2⟩, rfl⟩, rows1, T1, nd1, plain1, led1, ?_⟩ (fun z => absurd z e1) fun _ => perm)
      unfold SetTable.tooFull at full
      rw [decide_eq_true_eq, fill1] at full
      rw [len1]
      omega
end
end Pb
set_option Elab.async false
set_option linter.all false
set_option maxRecDepth 100000
set_option maxHeartbeats 4000000
/-! sets of tuples over the layer: set(), add, not in -/
namespace Pb
open PySem PySem.Spec PyProof.Rows L2
section
variable {P : Program} {w : World} {A : Around} {E : Value → Shared → Prop} {s : Shared} {a : Addr} {L : List (Addr × List Int)} {es : Array (Int × Value)} {ep : Nat} {t : SetTable}
theorem BigS.typeIs (R : BigS P w s.heap a L es ep t) : s.TypeIs (.ref a) "set" := by
  obtain ⟨o, ho, hex, _⟩ := R.ob
  exact ⟨o, ho, hex.1⟩
theorem BigS.noDict (R : BigS P w s.heap a L es ep t) : ∀ b, Value.ref a = .ref b → ∃ ob, s.heap.get? b = some ob ∧ ob.dict = none := fun b e => by
  obtain ⟨o, ho, hex, _⟩ := R.ob
  cases e
  exact ⟨o, ho, hex.2.1⟩
theorem call_add_big (R : BigS P w s.heap a L es ep t) (tup : ∀ p ∈ L, IsT P w s.heap p.2 p.1) {x : Addr} {k : List Int} (hx : IsT P w s.heap k x) (hu : A.units + 1 < cLine) (few : L.length + 1 ≤ 4914) {Q : Value → Shared → Prop}
    (hQ : ∀ h' tk L' es' ep' t', Heap.SameBut a s.heap h' → BigS P w h' a L' es' ep' t' → (k ∈ L.map (·.2) → L' = L) → (k ∉ L.map (·.2) → L'.Perm ((x, k) :: L)) → Q .none { s with heap := h', toks := tk }) :
    wpAny (model P w) A (call (.builtin "set.add") [.ref a, .ref x]) Q E s := by
  refine wpAny_call_entry F.slot_set_add R.typeIs F.entry_set_add ?_ (F.args_set_add_2 _ _)
  unfold Builtin.«set.add» Builtin.Frozenset.oneOther
  simp only [List.isEmpty_nil, bind_assoc]
  unfold Builtin.Frozenset.addrOf setAdd
  refine wpAny_bind (wpAny_pure ?_)
  try dsimp only
  refine wpAny_bind (wpAny_pure ?_)
  try dsimp only
  refine wpAny_bind ?_
  refine wpAny_holding ?_
  refine wpAny_bind (wpAny_pyHash_tuple (A := A.in1) hu hx ?_)
  refine add_big (s := { s with toks := s.toks + (k.length + 1) }) R tup hx (A := A.in1) hu few fun b h' L' es' ep' t' sb R' c1 c2 => ?_
  show wpAny _ _ (ret Value.none) _ _ _
  exact wpAny_pure ⟨_, rfl, hQ h' _ L' es' ep' t' sb R' c1 c2⟩
theorem notIn_big (R : BigS P w s.heap a L es ep t) (tup : ∀ p ∈ L, IsT P w s.heap p.2 p.1) {x : Addr} {k : List Int} (hx : IsT P w s.heap k x) (hu : A.units + 1 < cLine) {Q : Value → Shared → Prop}
    (hQ : ∀ tk, Q (.bool (!decide (k ∈ L.map (·.2)))) { s with toks := tk }) : wpAny (model P w) A (compareOp .NotIn (.ref x) (.ref a)) Q E s := by
  show wpAny _ _ (do return .bool (!(← contains (.ref a) (.ref x)))) Q E s
  refine wpAny_bind ?_
  unfold contains
  try with_reducible refine wpAny_holding ?_
  refine wpAny_bind (wpAny_specialOf R.typeIs F.slot_set_contains.lookup ?_)
  show wpAny _ _ (if (some (Value.builtin "set.__contains__") == some Value.none) = true then _ else _) _ E s
  rw [if_neg (by rw [beq_builtin_none]; exact Bool.false_ne_true)]
  refine wpAny_bind (wpAny_callSpecialUnlessNone?_slot (name := Str.ofString "__contains__") R.typeIs F.slot_set_contains
    (wpAny_call_entry F.slot_set_contains R.typeIs entry_set_contains ?_ (F.args_set_contains_2 _ _)))
  unfold Builtin.«frozenset.__contains__» Builtin.Frozenset.oneOther
  simp only [List.isEmpty_nil, bind_assoc]
  unfold Builtin.Frozenset.addrOf Builtin.Frozenset.withSetAsKey setContains
  refine wpAny_bind (wpAny_pure ?_)
  try dsimp only
  refine wpAny_bind (wpAny_pure ?_)
  try dsimp only
  refine wpAny_bind (wpAny_tryCatch ?_)
  refine wpAny_holding ?_
  refine wpAny_bind (wpAny_pyHash_tuple (A := A.in1) hu hx ?_)
  refine wpAny_bind (find_big (s := { s with toks := s.toks + (k.length + 1) }) R tup hx (A := A.in1) hu fun r hr => ?_)
  refine wpAny_pure ?_
  show wpAny _ _ (ret (Value.bool r.isSome)) _ _ _
  rw [hr]
  exact wpAny_pure ⟨_, rfl, wpAny_truthy_bool (wpAny_pure (hQ _))⟩
end
def BigO (P : Program) (w : World) (a : Addr) (L : List (Addr × List Int)) : HO := .ext fun h => ∃ es ep t, BigS P w h a L es ep t
theorem bigO_ok {P : Program} {w : World} {H : Hp} {h : Heap} {a : Addr} {L : List (Addr × List Int)} {es : Array (Int × Value)} {ep : Nat} {t : SetTable} (R : BigS P w h a L es ep t) : ObjOk P w H h a (BigO P w a L) := by
  obtain ⟨o, ho, _⟩ := R.ob
  exact ⟨⟨es, ep, t, R⟩, ⟨o, ho⟩, fun h1 h2 ⟨es, ep, t, R⟩ k => ⟨es, ep, t, R.keep k⟩⟩
/-- the set of the pairs S at a -/
def PSet (P : Program) (w : World) (K : PySem.W.Frag) (H : Hp) (a : Addr) (S : List P2) : Prop :=
  ∃ L : List (Addr × List Int), H a = some (BigO P w a L) ∧ (∀ q ∈ L, SqT K H q.1 (q.2.map V.int)) ∧ L.length = S.length ∧ ∀ p : P2, [p.1, p.2] ∈ L.map (·.2) ↔ p ∈ S
section
variable {X : Cx}
theorem PSet.get {pins : List (Addr × Obj)} {σ : L2.St} {H : Hp} {s : Shared} {a : Addr} {S : List P2} (I : Inv X pins σ H s) (h : PSet X.prog X.w X.K H a S) :
    ∃ L es ep t, H a = some (BigO X.prog X.w a L) ∧ BigS X.prog X.w s.heap a L es ep t ∧ (∀ q ∈ L, SqT X.K H q.1 (q.2.map V.int)) ∧ (∀ q ∈ L, IsT X.prog X.w s.heap q.2 q.1) ∧ L.length = S.length ∧ ∀ p : P2, [p.1, p.2] ∈ L.map (·.2) ↔ p ∈ S := by
  obtain ⟨L, ha, ht, hl, hm⟩ := h
  obtain ⟨es, ep, t, R⟩ := (I.hok a _ ha).1
  exact ⟨L, es, ep, t, ha, R, ht, fun q hq => I.isT (ht q hq), hl, hm⟩
def rSet0T (P : Program) (w : World) (K : PySem.W.Frag) : List V → Hp → VK → Prop := fun xs H Q => xs = [] ∧ ∀ p, H p = none → ∀ H', (∀ b o, H b = some o → H' b = some o) → (∀ b, b ≠ p → H' b = H b) → PSet P w K H' p [] → Q (.ref p) H'
theorem cr_set0T : CallR X (.type "set") (rSet0T X.prog X.w X.K) := by
  intro pins s σ H xs us Q I r h
  obtain ⟨rfl, q⟩ := h
  cases r
  refine setR_new fun _ => ?_
  have hp := I.hok.fresh (Nat.le_refl s.heap.objs.size)
  have new : BigS X.prog X.w (s.heap.push { cls := .type "set", dict := none, data := .set #[] 0 (.fresh 0 0 (!X.w.params.followText "set-order")) }) s.heap.objs.size [] #[] 0 (.fresh 0 0 (!X.w.params.followText "set-order")) := by
    refine ⟨⟨_, Heap.get?_push_size _ rfl, ⟨rfl, rfl, rfl⟩, rfl⟩, rfl, ⟨List.Pairwise.nil, rfl, rfl, .inl rfl, fun x hx => absurd hx List.not_mem_nil, fun i h j hi => by simp at hi⟩, List.nodup_nil, rfl, ?_, (by show 0 * 5 < 7 * 3; decide)⟩
    show _ ∨ (!X.w.params.followText "set-order") = true
    cases X.w.params.followText "set-order" <;> simp
  refine ⟨.ref _, upd H s.heap.objs.size (BigO X.prog X.w s.heap.objs.size []), I.laid (t' := s.toks) (fun b u e => Heap.get?_push_of_some _ e) (Nat.le_refl _) (bigO_ok new), rfl, ?_⟩
  exact q _ hp _ (same_upd hp) (fun b hb => upd_ne hb) ⟨[], upd_same, fun q hq => absurd hq List.not_mem_nil, rfl, fun p => by simp⟩
/-- found.add(pair) -/
def rSAddT (P : Program) (w : World) (K : PySem.W.Frag) : V → List V → Hp → VK → Prop := fun x xs H Q => ∃ (a : Addr) (v : V) (p : P2) (S : List P2), x = .ref a ∧ xs = [v] ∧ Pa K H v p ∧ PSet P w K H a S ∧ p ∉ S ∧ S.length + 1 ≤ 4914 ∧
  ∀ H', (∀ b, b ≠ a → H' b = H b) → PSet P w K H' a (p :: S) → Q .non H'
theorem mt_saddT (hu : X.A.units + 1 < cLine) : MtR X "set.add" (rSAddT X.prog X.w X.K) := by
  intro pins s σ H x xs v us Q I rx rxs h
  obtain ⟨a, y, p, S, rfl, rfl, ⟨b, rfl, hb⟩, hS, hn, few, q⟩ := h
  obtain ⟨L, es, ep, t, ha, R, ht, htk, hl, hm⟩ := hS.get I
  cases rx
  cases rxs with
  | cons ry rt =>
    cases rt
    cases ry
    have hbk : IsT X.prog X.w s.heap [p.1, p.2] b := I.isT (k := [p.1, p.2]) (SqT.of hb)
    have hnk : [p.1, p.2] ∉ L.map (·.2) := fun z => hn ((hm p).mp z)
    refine call_add_big R htk hbk hu (by omega) fun h' tk L' es' ep' t' sb R' _ c2 => ?_
    have pm := c2 hnk
    have he : ∃ u, h'.get? a = some u := by
      obtain ⟨o, ho, _⟩ := R'.ob
      exact ⟨o, ho⟩
    have nt : ∀ c xs, SqT X.K H c xs → SqT X.K (upd H a (BigO X.prog X.w a L')) c xs := fun c xs z => by
      rcases z with (z | ⟨o, z⟩) | z
      · exact .inl (.inl (by rw [upd_ne (ne_of z ha (by intro y; cases y))]; exact z))
      · exact .inl (.inr ⟨o, by rw [upd_ne (ne_of z ha (by intro y; cases y))]; exact z⟩)
      · exact .inr z
    refine ⟨.non, upd H a (BigO X.prog X.w a L'), I.write (e := a) (t' := tk) (by rw [ha]; trivial) (.inl rfl) (fun c u hc e => (sb.2 c hc).trans e) he (bigO_ok R'), rfl, q _ (fun c hc => upd_ne hc) ⟨L', upd_same, fun r hr => nt _ _ ?_, ?_, fun z => ?_⟩⟩
    · rcases List.mem_cons.mp (pm.mem_iff.mp hr) with e | e
      · rw [e]
        exact SqT.of hb
      · exact ht r e
    · rw [pm.length_eq, List.length_cons, List.length_cons, hl]
    · rw [(pm.map (·.2)).mem_iff, List.map_cons, List.mem_cons, List.mem_cons, hm]
      constructor
      · rintro (e | e)
        · simp only [List.cons.injEq, and_true] at e
          exact .inl (Prod.ext e.1 e.2)
        · exact .inr e
      · rintro (e | e)
        · rw [e]
          exact .inl rfl
        · exact .inr e
def tSAddT (P : Program) (w : World) (K : PySem.W.Frag) (to : TE) (t : TA) : TE := fun σ H Q => to σ H fun x H1 => (∃ a S, x = V.ref a ∧ PSet P w K H1 a S) ∧ t σ H1 fun xs H2 => rSAddT P w K x xs H2 Q
variable {o e : Expr} {es : List Expr} {to : TE} {t : TA} {apos cpos : Pos}
theorem pe_saddT (hu : X.A.units + 1 < cLine) (ho : PE X o to) (ha : PA X (e :: es) t)
    (hbase : attributeBase o "add" X.env (eval o X.env) = eval o X.env := by rfl)
    (hfew : ((backTo cpos (starEach (e :: es) X.env)).all (fun x => !x.1) && (backToKw cpos (keywordEach [] X.env)).all (fun x => x.1.isSome)
      && decide ((e :: es).length + ([] : List Keyword).length + (if ([] : List Keyword).isEmpty then 0 else 1) < 30)) = true := by rfl)
    (hline : (apos.endLine == cpos.line) = true := by rfl) (hs : starEach (e :: es) X.env = (false, eval e X.env) :: starEach es X.env := by rfl) (hplain : (backTo cpos (starEach es X.env)).any (·.1) = false := by rfl) :
    PE X (.Call (.Attribute o "add" apos) (e :: es) [] cpos) (tSAddT X.prog X.w X.K to t) := by
  refine ⟨fun pins s σ H Q I h => ?_⟩
  refine wpAny_Call_method_late hbase hfew hline rfl (thn (ho.run pins s σ H _ I h) fun v s1 ⟨x, H1, I1, r1, ⟨a, S, ex, hS⟩, q1⟩ => ?_)
  subst ex
  obtain ⟨L, es', ep, tb, _, R, _⟩ := hS.get I1
  cases r1
  refine ⟨"set", "set.add", F.plainAttrs_set, F.slot_set_add, F.type_set_add, R.typeIs, R.noDict, ?_⟩
  have hA := ha.run cpos pins s1 σ H1 _ I1 q1
  rw [hs] at hA ⊢
  refine Calls.callWith_builtin (by show (false || (backTo cpos (starEach es X.env)).any (·.1)) = false; rw [hplain]; rfl) (Calls.evalArgs_plain ?_)
  exact thn hA fun us s2 ⟨vs, H2, I2, r2, q2⟩ => mt_saddT hu pins s2 σ H2 (.ref a) vs (.ref a) us Q I2 rfl r2 q2
/-- pair not in found -/
def rNotInT (P : Program) (w : World) (K : PySem.W.Frag) : R2 := fun x y H Q => ∃ (p : P2) (a : Addr) (S : List P2), Pa K H x p ∧ y = .ref a ∧ PSet P w K H a S ∧ Q (.bl (!decide (p ∈ S))) H
theorem op_notInT (hu : X.A.units + 1 < cLine) : OpR X (compareOp .NotIn) (rNotInT X.prog X.w X.K) := by
  intro pins s σ H x y v u Q I rx ry h
  obtain ⟨p, a, S, ⟨b, rfl, hb⟩, rfl, hS, q⟩ := h
  obtain ⟨L, es, ep, t, ha, R, ht, htk, hl, hm⟩ := hS.get I
  cases rx
  cases ry
  have hbk : IsT X.prog X.w s.heap [p.1, p.2] b := I.isT (k := [p.1, p.2]) (SqT.of hb)
  refine notIn_big R htk hbk hu fun tk => ⟨.bl _, H, I.tok tk, rfl, ?_⟩
  have e : decide ([p.1, p.2] ∈ L.map (·.2)) = decide (p ∈ S) := by
    by_cases c : p ∈ S
    · rw [decide_eq_true c, decide_eq_true ((hm p).mpr c)]
    · rw [decide_eq_false c, decide_eq_false (fun z => c ((hm p).mp z))]
  rw [e]
  exact q
end
end Pb
set_option Elab.async false
set_option linter.all false
set_option maxRecDepth 100000
set_option maxHeartbeats 2000000
namespace Pb
open PySem PySem.Spec PyProof.Rows L2
/-! an own class that has no __init__, made -/
theorem run_own0 {X : Cx} {C : Addr} {pins : List (Addr × Obj)} {σ : L2.St} {H : Hp} {s : Shared} {Q : VK} (hm : PySem.W.makesIn X.K C = true)
    (hi : PySem.W.findIn X.K (.ref C) "__init__" = some (some (.builtin "object.__init__"))) (I : L2.Inv X pins σ H s)
    (h : ∀ x dx, H x = none → H dx = none → dx ≠ x → Q (.ref x) (upd (upd H dx (.own x)) x (.ins C dx []))) :
    wpAny (model X.prog X.w) X.A (call (.ref C) []) (EP X pins σ Q) X.xe s := by
  have hq := h (s.heap.objs.size + 1) s.heap.objs.size (HOk.fresh I.hok (Nat.le_succ _)) (HOk.fresh I.hok (Nat.le_refl _)) (Nat.ne_of_lt (Nat.lt_succ_self _))
  have I2 := Inv.made (C := C) I
  have Y := PySem.W.makes_of (M := model X.prog X.w) I.kIn hm
  have e1 : ((s.heap.push PySem.W.emptyDict).push (PySem.W.instObj C s.heap.objs.size)).get? (s.heap.objs.size + 1) = some (PySem.W.instObj C s.heap.objs.size) :=
    Heap.get?_push_at (by rw [Heap.size_push]) rfl
  refine wpAny_call (PySem.W.make_core Y (PySem.W.looks_findIn I.kIn hi) (fun self => PySem.W.Looks.of_pure (PySem.W.oi_bind self)) (.inr ⟨rfl, rfl⟩) ?_)
  have t2 : PySem.W.Looks (model X.prog X.w) ((s.heap.push PySem.W.emptyDict).push (PySem.W.instObj C s.heap.objs.size)) (isInstance (.ref (s.heap.objs.size + 1)) (.type "object")) true := by
    have k := PySem.W.Looks.keeps (h' := (s.heap.push PySem.W.emptyDict).push (PySem.W.instObj C s.heap.objs.size)) Y.top fun b o e => Heap.get?_push_of_some (PySem.W.instObj C s.heap.objs.size) (Heap.get?_push_of_some PySem.W.emptyDict e)
    have t1 : PySem.W.Looks (model X.prog X.w) ((s.heap.push PySem.W.emptyDict).push (PySem.W.instObj C s.heap.objs.size)) (typeOf (.ref (s.heap.objs.size + 1))) (.ref C) := PySem.W.Looks.andThen (PySem.W.Looks.ld (part := some headPart) e1) PySem.W.Looks.now
    exact PySem.W.Looks.andThen t1 k
  refine codeAny_call_builtin PySem.W.oi_plain PySem.W.entry_oi (PySem.W.check_slot PySem.W.oi_kind PySem.W.oi_split t2 (PySem.W.oi_args (.ref (s.heap.objs.size + 1))) ?_)
  rw [PySem.W.oi_run (.ref (s.heap.objs.size + 1))]
  exact wpAny_pure ⟨rfl, ⟨.ref (s.heap.objs.size + 1), _, I2, rfl, hq⟩⟩
/-- C(), a class without __init__ -/
def tOwn0 (C : Addr) : TE := fun _ H Q => ∀ x dx, H x = none → H dx = none → dx ≠ x → Q (.ref x) (upd (upd H dx (.own x)) x (.ins C dx []))
theorem pe_own0 {X : Cx} {C : Addr} {x : Str} {p pos : Pos} (hm : PySem.W.makesIn X.K C = true)
    (hi : PySem.W.findIn X.K (.ref C) "__init__" = some (some (.builtin "object.__init__"))) (kp : PySem.W.keepIn X.K (.ref C) = true) (hg : Gl X x) (hmg : X.mg x = some (.ref C)) (hdb : (x == ("__debug__" : Str)) = false := by decide) :
    PE X (.Call (.Name x p) [] [] pos) (tOwn0 C) := ⟨fun pins s σ H Q I h => wpAny_Call_Name_kw (ld_glob I hg hmg (PySem.W.callWith_K0 I.kIn kp (run_own0 hm hi I h)) hdb)⟩
end Pb
set_option Elab.async false
set_option linter.all false
set_option maxRecDepth 100000
set_option maxHeartbeats 2000000
namespace Pb
open PySem PySem.Spec PyProof.Rows L2
/-- a list's iterator at its end, while an exception is handled -/
theorem list_end_hot {prog : Program} {w : World} {A : Around} {E : Value → Shared → Prop} {s : Shared} {it l x1 : Addr} {i : Nat} {items : Array Value} {Q : Option Value → Shared → Prop} (hot : HotX.HotAt A x1 s.heap) (hne : x1 ≠ it)
    (hit : s.heap.IsListIter it l i) (hl : s.heap.IsList l items) (hx : items[i]? = none) (hQ : ∀ h', Heap.ExtBut it s.heap h' → Q none { heap := h', gens := s.gens, drawn := s.drawn, toks := s.toks, os := s.os }) : wpAny (model prog w) A (pyNext (.ref it)) Q E s := by
  obtain ⟨o, ho, hc, hd⟩ := id hit
  obtain ⟨ol, hol, _, nl, hdl⟩ := id hl
  obtain ⟨hh, o1, vs1, h1, d1, c1⟩ := hot
  refine wpAny_bind (wpAny_attempt (wpAny_callSpecial?_slot (Heap.IsListIter.typeIs hit) slot_listiter_next (wpAny_call_entry slot_listiter_next (Heap.IsListIter.typeIs hit) entry_listiter_next ?_ ?_)))
  · show wpAny (model prog w) A.in1 (field (.ref it) 0 >>= fun seq => _) _ _ s
    refine wpAny_bind (wpAny_field ho hd rfl ?_)
    show wpAny (model prog w) A.in1 (if (Value.ref l == Value.none) = true then _ else _) _ _ s
    rw [if_neg (show ¬ (Value.ref l == Value.none) = true from Bool.false_ne_true)]
    show wpAny (model prog w) A.in1 (field (.ref it) 1 >>= fun seq => _) _ _ s
    refine wpAny_bind (wpAny_field ho hd rfl ?_)
    show wpAny (model prog w) A.in1 (seqItems? (.ref l) >>= fun seq => _) _ _ s
    refine wpAny_bind (wpAny_seqItems hol hdl ?_)
    have hx' : items[((i : Nat) : Int).toNat]? = none := hx
    simp only [hx']
    refine wpAny_bind (wpAny_rule (wpAny_bind (wpAny_setField ho hd (by simp) ?_)))
    show wpAny (model prog w) A.in1 (newExc (Value.type "StopIteration") [] >>= fun e => raiseNew e) _ _ _
    refine wpAny_bind ?_
    show wpAny (model prog w) A.in1 (newObj (Value.type "tuple") _ _ >>= fun e => _) _ _ _
    refine wpAny_bind (wpAny_newObj_type ?_ ?_)
    · refine wpAny_bind (wpAny_of_eq rfl (wpAny_newObj_type ?_ ?_))
      · have up : ∀ b ob, it ≠ b → s.heap.get? b = some ob → (s.heap.update it (Obj.mapFields fun x => x.setIfInBounds 0 Value.none)).get? b = some ob := fun b ob hb e => Heap.get?_update_of_ne _ hb e
        have e1 := Heap.get?_push_of_some { cls := Value.type "tuple", data := Data.seq #[] } (up x1 o1 (fun z => hne z.symm) h1)
        refine HotX.raiseNew_hot (x1 := x1) ⟨hh, o1, vs1, Heap.get?_push_of_some _ e1, d1, c1⟩ (Nat.ne_of_lt (Heap.lt_size e1)) (Heap.get?_push_size _ rfl) rfl ?_ ?_
        · rw [Array.size_append]
          simp
          omega
        · refine wpAny_bind (wpAny_isInstance (b := true) ⟨_, Heap.get?_update_self _ (Heap.get?_push_size _ rfl) rfl, rfl⟩ isSubtype_stop ?_)
          refine wpAny_pure (hQ _ fun b ob hb e => ?_)
          have e2 := Heap.get?_push_of_some { cls := Value.type "tuple", data := Data.seq #[] } (up b ob (fun z => hb z.symm) e)
          exact Heap.get?_update_of_ne _ (fun z => Nat.ne_of_lt (Heap.lt_size e2) z.symm) (Heap.get?_push_of_some _ e2)
      · exact sizeOk_excFields _ _ _ _ _ _ _ _
    · show (0 : Nat) ≤ sizeLine
      exact Nat.zero_le _
  · exact args_listiter_next (Value.ref it)
theorem walks_listH {prog : Program} {w : World} {A : Around} (I ax x1 : Addr) (hne : ax ≠ I) (hx : x1 ≠ I) (items : Array Value) :
    Walks prog w A I [I, ax, x1] [I] items.size (fun i v => items[i]? = some v) fun i h => (h.IsListIter I ax i ∧ h.IsList ax items) ∧ HotX.HotAt A x1 h where
  sub := fun b hb => by
    rw [List.mem_singleton] at hb
    subst hb
    exact List.mem_cons_self
  frame := fun i h h' st hk => ⟨⟨st.1.1.at fun o e => hk I (by simp) o e, st.1.2.at fun o e => hk ax (by simp) o e⟩, by
    obtain ⟨hh, o, vs, e, d, c⟩ := st.2
    exact ⟨hh, o, vs, hk x1 (by simp) o e, d, c⟩⟩
  item := fun i s Q E hi st hQ => wpAny_pyNext_list_item st.1.1 st.1.2 (Array.getElem?_eq_getElem hi) fun h' hit' hs' => by
    have keep : ∀ (b : Addr) (o : Obj), ¬b ∈ [I] → s.heap.get? b = some o → h'.get? b = some o := fun b o hb e => hs'.extBut b o (fun z => hb (by rw [z]; exact List.mem_cons_self)) e
    refine hQ items[i] h' s.toks (Array.getElem?_eq_getElem hi) ⟨⟨hit', st.1.2.extBut hs'.extBut hne⟩, ?_⟩ keep
    obtain ⟨hh, o, vs, e, d, c⟩ := st.2
    exact ⟨hh, o, vs, keep x1 o (by simpa using hx) e, d, c⟩
  done := fun s Q E st hQ => list_end_hot st.2 hx st.1.1 st.1.2 (Array.getElem?_eq_none (Nat.le_refl _)) fun h' he' => hQ h' s.toks fun b o hb e => he' b o (fun z => hb (by rw [z]; exact List.mem_cons_self)) e
  self := fun i s Q E st hQ => wpAny_pyIter_listiter st.1.1 hQ
theorem cr_anyH {X : Cx} (hc : L2H.HotC X) : CallR X (.builtin "any") (rAny X.K) := by
  intro pins s σ H vs us Q I r h
  obtain ⟨a, bs, rfl, hs, q⟩ := h
  obtain ⟨its, rv, hl, _⟩ := Inv.list I hs
  rw [Vals.ref1 r]
  have hb := Vals.bls rv
  obtain ⟨x1, hot⟩ := L2H.HotC.at hc I
  refine call_any_walk (iter_any (PlainL.isList hl) fun s₂ e2 st hne => ?_)
  subst e2
  have hx1 : x1 ≠ s.heap.objs.size := by
    obtain ⟨_, o, vs, e, _, _⟩ := hot
    exact Nat.ne_of_lt (Heap.lt_size e)
  have hot2 : HotX.HotAt X.A.in1 x1 (s.heap.push { cls := Value.type "list_iterator", data := Data.fields #[Value.ref a, Value.int 0 0] }) := by
    obtain ⟨hh, o, vs, e, d, c⟩ := hot
    exact ⟨hh, o, vs, Heap.get?_push_of_some _ e, d, c⟩
  refine ⟨s.heap.objs.size, _, _, its.toArray.size, _, _, fun i => bs.getD i false, rfl, walks_listH s.heap.objs.size a x1 hne hx1 its.toArray, ⟨st, hot2⟩, truth_bools hb, fun h' tk hk => ⟨.bl (bs.any id), H, (show L2.Inv X pins σ H { heap := h', gens := s.gens, drawn := s.drawn, toks := tk, os := s.os } from Inv.kept (s := s) I fun b o eo => hk b o (fun hm => Nat.ne_of_lt (Heap.lt_size eo) (List.mem_singleton.mp hm)) (Heap.get?_push_of_some _ eo)), ?_, q⟩⟩
  · show Value.bool _ = Value.bool _
    rw [← any_range bs, hb]
    simp
/-- a suite of a caught exception that has no context is hot -/
theorem hot_suite {X : Cx} {a : Addr} {oe : Obj} {pn : List (Addr × Obj)} {cls : Value} {d : Option Addr} (hz : L2N.Zn cls d oe) (hf : ∃ vs, oe.data = Data.fields vs) : L2H.HotC (X.suite a ((a, oe) :: pn)) := by
  obtain ⟨vs, e⟩ := hf
  exact ⟨(a, oe), ⟨rfl, vs, e, hz.2.2 vs e⟩, List.mem_cons_self⟩
/-- isinstance of the caught exception, its class told by the way out -/
def rIsG (K : PySem.W.Frag) (cls : Value) (d : Option Addr) (a : Addr) : List V → Hp → VK → Prop := fun xs H Q => ∃ D, cls = .ref D ∧ d = none ∧ ExcC K D ∧ rIsE K D a xs H Q
theorem call_isG {X : Cx} {a : Addr} {oe : Obj} {pn : List (Addr × Obj)} {cls : Value} {d : Option Addr} (hz : L2N.Zn cls d oe) (hf : ∃ vs, oe.data = Data.fields vs) : CallR (X.suite a ((a, oe) :: pn)) (.builtin "isinstance") (rIsG X.K cls d a) := by
  intro pins s σ H xs us Q I r h
  obtain ⟨D, rfl, rfl, c, h⟩ := h
  exact call_isE c ⟨hz.1, hz.2.1⟩ hf pins s σ H xs us Q I r h
/-- len of a set of less than 64 tuples -/
theorem cr_lenT {X : Cx} : CallR X (.builtin "len") (fun xs H Q => ∃ a L, xs = [.ref a] ∧ H a = some (SetTO X.prog X.w a L) ∧ ((L.map (·.2)).Nodup → Q (.int L.length) H)) := by
  intro pins s σ H xs us Q I r h
  obtain ⟨a, L, rfl, ha, q⟩ := h
  have S : SetT0 X.prog X.w s.heap a L := (I.hok a _ ha).1
  obtain ⟨es, ep, t, ⟨o, ho, hx, hd⟩, hrows, tab, nd, plain, led, room, few⟩ := S.ex
  have hsz : es.size = L.length := by
    have := congrArg List.length hrows
    simpa [rowsOf] using this
  have fits : t.fits es.size = true := by
    unfold SetTable.fits SetTable.fill
    rw [tab.dm, tab.sz]
    simp
    omega
  rw [Vals.ref1 r]
  refine call_len_set ho hx hd fits (by omega) ?_
  rw [hsz]
  exact ⟨.int L.length, H, I.tok _, ⟨_, rfl⟩, q nd⟩
theorem takes0N {X : Cx} : L2N.Takes X fun _ _ _ _ => False := fun u s' h => by
  obtain ⟨_, _, _, _, _, _, _, _, _, _, _, _, _, _, _, _, z⟩ := h
  exact z.elim
/-- a def that may raise -/
def HasX (P : Program) (w : World) (K : PySem.W.Frag) (mg : Str → Option Value) (base : Heap) (x : Str) (k : Nat) (ps : List Str) (sp : Sp) : Prop :=
  ∃ (f : Addr) (fd : FuncData), FnOk P w K mg base (L2N.CX P w) k f fd ps sp ∧ mg x = some (.ref f) ∧ PySem.W.keepIn K (.ref f) = true ∧ Binds K fd ps []
theorem okN {P : Program} {w : World} {K : PySem.W.Frag} {mg : Str → Option Value} {base : Heap} {x qual : Str} {st : Stmt} {f : Addr} {fd : FuncData} {N ps : List Str} {k : Nat} {sp : Sp} (F : Fun K x qual st f fd) (sc : FnScope N ps (defScope st))
    (len : ∀ vs H Q E, sp vs H Q E → vs.length = ps.length)
    (walk : ∀ (cdv : Value) (A : Around) (outer : List Env) (s : Shared) (H : Hp) (vs : List V) (Q : VK) (E : XK), Room k (A.deeper (envOfC qual (defScope st) s.heap.objs.size f cdv)) → sp vs H Q E →
      ∃ t, PSs (cxOf (L2N.CX P w) P w K mg base N qual (defScope st) f cdv A outer s H E) (defBody st) t ∧ t { nx := fun _ H' => Q V.non H', rt := Q } (L2.start N vs) H) : FnOk P w K mg base (L2N.CX P w) (k + 1) f fd ps sp := by
  obtain ⟨oc, od, kV, doc, pm, an, cdv, ct, osl, rfl, hl, hc⟩ := F.ex
  exact fn_of hl hc sc len fun A outer s H vs Q E hr h => walk cdv A outer s H vs Q E hr h
theorem pe_HX {X : Cx} {W : WX} {k : Nat} {ps : List Str} {sp : Sp} {x : Str} {p pos : Pos} {e : Expr} {es : List Expr} {t : TA} (tk : L2N.Takes X W) (G : HasX X.prog X.w X.K X.mg X.base x k ps sp) (hr : Room k X.A) (hg : Gl X x) (ha : PA X (e :: es) t) (hdb : (x == ("__debug__" : Str)) = false := by decide)
    (he : starEach (e :: es) X.env = (false, eval e X.env) :: starEach es X.env := by rfl) (hpl : (backTo pos (starEach es X.env)).any (·.1) = false := by rfl) :
    PE X (.Call (.Name x p) (e :: es) [] pos) (tCallS sp (WE W) t) := by
  obtain ⟨f, fd, F, hm, hk, hb⟩ := G
  exact pe_callS F hr hg hm hk hb (fun σ => L2N.passAt tk σ) ha hdb he hpl
theorem cr_anyK {X : Cx} {K : PySem.W.Frag} (hc : L2H.HotC X) (e : X.K = K) : CallR X (.builtin "any") (rAny K) := by
  subst e
  exact cr_anyH hc
end Pb
set_option Elab.async false
set_option linter.all false
set_option maxRecDepth 100000
set_option maxHeartbeats 2000000
namespace Pb
open PySem PySem.Spec PyProof.Rows L2
/-! a def called while an exception is handled, and told of that very exception -/
structure FnHp (P : Program) (w : World) (K : PySem.W.Frag) (mg : Str → Option Value) (base : Heap) (CX : CXT) (k : Nat) (f : Addr) (fd : FuncData) (ps : List Str) (p : Addr × Obj) (sp : Sp) : Prop where
  len : ∀ vs H Q E, sp vs H Q E → vs.length = ps.length
  run : ∀ (A : Around) (outer : List Env) (s : Shared) (H : Hp) (args : Args) (us : List Value) (vs : List V) (Q : VK) (E : XK), L2H.RoomH k A → L2H.Hot1 A p → L2H.PinOk outer H s p → Env0 P w K mg base A outer s H →
    BindsTo s fd args (ps.zip us) → Vals vs us → sp vs H Q E → codeAny (model P w) A (Code.call (.ref f) args) (CR CX outer P w H s Q E) s
theorem okHp {CX : CXT} {P : Program} {w : World} {K : PySem.W.Frag} {mg : Str → Option Value} {base : Heap} {x qual : Str} {st : Stmt} {f : Addr} {fd : FuncData} {N ps : List Str} {k : Nat} {sp : Sp} {p : Addr × Obj} (F : Fun K x qual st f fd) (S : FnScope N ps (defScope st))
    (len : ∀ vs H Q E, sp vs H Q E → vs.length = ps.length)
    (walk : ∀ (cdv : Value) (A : Around) (outer : List Env) (s : Shared) (H : Hp) (vs : List V) (Q : VK) (E : XK), L2H.Hot1 A p → L2H.RoomH k (A.deeper (envOfC qual (defScope st) s.heap.objs.size f cdv)) → sp vs H Q E →
      ∃ t, PSs (L2H.cxH CX P w K mg base N qual (defScope st) f cdv A outer s H E p) (defBody st) t ∧ t { nx := fun _ H' => Q V.non H', rt := Q } (L2.start N vs) H) : FnHp P w K mg base CX (k + 1) f fd ps p sp := by
  obtain ⟨oc, od, kV, doc, pm, an, cdv, ct, osl, rfl, lk, hcd⟩ := F.ex
  refine ⟨len, fun A outer s H args us vs Q E hr hot hpin e0 hb r hsp => ?_⟩
  have hl := len vs H Q E hsp
  have KX := W.Frag.In.keeps e0.mod.kin fun b o e => (e0.bs b o e).1
  have lim := Heap.NoLimit.keeps e0.mod.nolimit fun b o e => (e0.bs b o e).1
  refine codeAny_call_function (L2H.RoomH.depth hr) (KX f _ lk) rfl S.co S.gen rfl (W.codeRec_of KX hcd) (hb (model P w) A.in1 _ _ (wpAny_newFunctionEnv_cells S.kind (fun y hy => ?_) fun env he s1 x => ?_))
  · rcases S.par y.1 (List.of_mem_zip hy).1 with q | q
    · exact .inl q
    · exact .inr ⟨q, W.cellsFrom_some (defScope st).names (s.heap.objs.size + 1) [] (.inl q)⟩
  · subst he
    refine ⟨Heap.NoLimit.keeps lim x.toInCall.keep, codeAny_func ?_⟩
    obtain ⟨t, ht, hq⟩ := walk cdv A outer s H vs Q E hot (L2H.RoomH.deeper hr (envOfC qual (defScope st) s.heap.objs.size f cdv)) hsp
    have I : L2.Inv (L2H.cxH CX P w K mg base N qual (defScope st) f cdv A outer s H E p) [] (L2.start N vs) H s1 := L2H.inv_startH S hpin e0 hl r x
    refine wpAny_mono (ht.run [] s1 (L2.start N vs) H { nx := fun _ H' => Q V.non H', rt := Q } I hq) (fun fl s' hs => ?_) fun e s' hs => hs
    have fin : ∀ {σ' : L2.St} {H' : Hp} {v : V} {u : Value}, L2.Inv (L2H.cxH CX P w K mg base N qual (defScope st) f cdv A outer s H E p) [] σ' H' s' → RelV v u → Q v H' → CE outer P w H s Q u s' :=
      fun {σ' H' v u} J rv q => ⟨v, H', J.os, J.bare, J.base, J.hok, rv, q⟩
    cases fl with
    | ret u =>
      obtain ⟨v, σ', H', J, rv, q⟩ := hs
      exact fin J rv q
    | next =>
      obtain ⟨σ', H', J, q⟩ := hs
      exact fin (v := V.non) (u := Value.none) J rfl q
    | brk =>
      obtain ⟨_, _, _, q⟩ := hs
      exact False.elim q
    | cont =>
      obtain ⟨_, _, _, q⟩ := hs
      exact False.elim q
/-- the call of such a def: the context's hot exception is p, and p is pinned -/
theorem run_fnHp {X : L2.Cx} {CX : CXT} {k : Nat} {f : Addr} {fd : FuncData} {ps : List Str} {sp : Sp} {p : Addr × Obj} {pins : List (Addr × Obj)} {σ : L2.St} {H : Hp} {s : Shared} {Q : VK} {E : L2.St → XK} {us : List Value} {vs : List V}
    (F : FnHp X.prog X.w X.K X.mg X.base CX k f fd ps p sp) (hr : L2H.RoomH k X.A) (hot : L2H.Hot1 X.A p) (hp : p ∈ X.pn) (hb : Binds X.K fd ps []) (hx : PassesAt CX X σ (E σ))
    (I : L2.Inv X pins σ H s) (r : Vals vs us) (h : sp vs H Q (E σ)) : wpAny (model X.prog X.w) X.A (call (.ref f) us) (EP X pins σ Q) X.xe s := by
  have hl : us.length = ps.length := by rw [← r.length]; exact F.len _ _ _ _ h
  have b := hb s us I.kIn (by rw [List.append_nil]; exact hl)
  rw [List.append_nil] at b
  have P1 := I.pin p (List.mem_append_left _ hp)
  have hpin : L2H.PinOk X.stack H s p := ⟨P1.1, P1.2.1, fun hm => (List.mem_cons.mp (I.stkSub p.1 hm)).elim P1.2.2.1 P1.2.2.2.1, P1.2.2.2.2⟩
  refine wpAny_call (codeAny_mono (F.run X.A X.stack s H ⟨us, []⟩ us vs Q (E σ) hr hot hpin I.env0 b r h) fun r s' hq => ?_)
  cases r with
  | error e => exact hx pins H s e s' I hq
  | ok fl =>
    cases fl with
    | ret u => exact I.after hq
    | next => exact False.elim hq
    | brk => exact False.elim hq
    | cont => exact False.elim hq
/-- the call by its global name -/
theorem pe_callHp {X : L2.Cx} {CX : CXT} {k : Nat} {f : Addr} {fd : FuncData} {ps : List Str} {sp : Sp} {p : Addr × Obj} {E : L2.St → XK} {x : Str} {q pos : Pos} {e : Expr} {es : List Expr} {t : TA}
    (F : FnHp X.prog X.w X.K X.mg X.base CX k f fd ps p sp) (hr : L2H.RoomH k X.A) (hot : L2H.Hot1 X.A p) (hp : p ∈ X.pn) (hg : Gl X x) (hm : X.mg x = some (.ref f)) (hk : PySem.W.keepIn X.K (.ref f) = true) (hb : Binds X.K fd ps []) (hx : ∀ σ, PassesAt CX X σ (E σ))
    (ha : PA X (e :: es) t) (hdb : (x == ("__debug__" : Str)) = false := by decide) (he : starEach (e :: es) X.env = (false, eval e X.env) :: starEach es X.env := by rfl) (hpl : (backTo pos (starEach es X.env)).any (·.1) = false := by rfl) :
    PE X (.Call (.Name x q) (e :: es) [] pos) (tCallS sp E t) := by
  refine ⟨fun pins s σ H Q I h => ?_⟩
  refine wpAny_Call_Name_kw (L2.ld_glob I hg hm ?_ hdb)
  refine PySem.W.callWith_K (h₀ := X.base) I.ok.mod.kin hk (L2.thn (ha.run pos pins s σ H _ I h) fun us s1 ⟨vs, H1, I1, r, q⟩ => ⟨I1.kIn, ?_⟩) he hpl
  exact run_fnHp F hr hot hp hb (hx σ) I1 r q
/-- isinstance of the pinned exception, in any context that pins it -/
theorem call_isP {X : L2.Cx} {a D : Addr} {oe : Obj} (hp : (a, oe) ∈ X.pn) (C : L2.ExcC X.K D) (hz : L2.Zc (.ref D) none oe) (hf : ∃ vs, oe.data = .fields vs) : CallR X (.builtin "isinstance") (L2.rIsE X.K D a) := by
  intro pins s σ H xs us Q I r h
  obtain ⟨c, cv, b, rfl, hcv, e, q⟩ := h
  cases r with
  | cons rx rr =>
    cases rr with
    | cons rt rr =>
      cases rr
      cases rx
      have ec := hcv _ rt
      subst ec
      obtain ⟨hget, _⟩ := I.pin (a, oe) (List.mem_append.mpr (.inl hp))
      obtain ⟨vs, hv⟩ := hf
      have J : PySem.W.InstAt s.heap a oe D none := by
        obtain ⟨oc, od, oda, osl⟩ := oe
        obtain ⟨h1, h2⟩ := hz
        dsimp only at h1 h2 hv
        subst h1 h2 hv
        exact ⟨hget, rfl, rfl, trivial⟩
      exact PySem.W.kia_one (PySem.W.handS_kitx_exc C.hg C.hk C.hs C.hd C.ha C.hn C.ht C.hm) I.kIn J e (fun z => nomatch z) fun tk => ⟨.bl b, H, I.kept (t' := tk) fun _ _ z => z, rfl, q⟩
/-- a local name that holds one of several raising defs: the promise goes with the address -/
structure HeldX (P : Program) (w : World) (K : PySem.W.Frag) (mg : Str → Option Value) (base : Heap) (k : Nat) (f : Addr) (sp : Sp) : Prop where
  ex : ∃ (fd : FuncData) (ps : List Str), FnOk P w K mg base (L2N.CX P w) k f fd ps sp ∧ PySem.W.keepIn K (.ref f) = true ∧ Binds K fd ps []
theorem HasX.held {P : Program} {w : World} {K : PySem.W.Frag} {mg : Str → Option Value} {base : Heap} {x : Str} {k : Nat} {ps : List Str} {sp : Sp} (G : HasX P w K mg base x k ps sp) {f : Addr} (h : mg x = some (.ref f)) : HeldX P w K mg base k f sp := by
  obtain ⟨f', fd, F, hm, hk, hb⟩ := G
  rw [h] at hm
  cases hm
  exact ⟨fd, ps, F, hk, hb⟩
def tCallAX (i : Nat) (S : Addr → Sp → Prop) (E : L2.St → XK) (t : TA) : TE := fun σ H Q => ∃ f sp, σ[i]? = some (some (.ref f)) ∧ S f sp ∧ t σ H fun vs H1 => sp vs H1 Q (E σ)
theorem pe_callAX {X : L2.Cx} {W : WX} {k i : Nat} {x : Str} {p pos : Pos} {e : Expr} {es : List Expr} {t : TA} {S : Addr → Sp → Prop} (tk : L2N.Takes X W) (A : ∀ f sp, S f sp → HeldX X.prog X.w X.K X.mg X.base k f sp) (hr : Room k X.A) (hN : X.N[i]? = some x) (hv : Vis X.env.scope x) (ha : PA X (e :: es) t)
    (hdb : (x == ("__debug__" : Str)) = false := by decide) (hcd : (x == ("__classdict__" : Str)) = false := by decide)
    (he : starEach (e :: es) X.env = (false, eval e X.env) :: starEach es X.env := by rfl) (hpl : (backTo pos (starEach es X.env)).any (·.1) = false := by rfl) : PE X (.Call (.Name x p) (e :: es) [] pos) (tCallAX i S (WE W) t) := by
  refine ⟨fun pins s σ H Q I h => ?_⟩
  obtain ⟨f, sp, hs, hS, ht⟩ := h
  obtain ⟨fd, ps, F, hk, hb⟩ := (A f sp hS).ex
  refine wpAny_Call_Name_kw (L2.thn ((L2.pe_var (pos := p) hN hv hdb hcd).run pins s σ H (fun v H1 => v = .ref f ∧ H1 = H) I ⟨.ref f, hs, rfl, rfl⟩) fun u s1 ⟨v, H1, I1, r1, q1⟩ => ?_)
  obtain ⟨rfl, rfl⟩ := q1
  cases r1
  refine PySem.W.callWith_K (h₀ := X.base) I.ok.mod.kin hk (L2.thn (ha.run pos pins s1 σ _ _ I1 ht) fun us s2 ⟨vs, H2, I2, r, q⟩ => ⟨I2.kIn, ?_⟩) he hpl
  exact run_fnS F hr hb (L2N.passAt tk σ) I2 r q
/-- a def that never refuses, where refusals are allowed -/
theorem fnOk_up {P : Program} {w : World} {K : PySem.W.Frag} {mg : Str → Option Value} {base : Heap} {CX : CXT} {k : Nat} {f : Addr} {fd : FuncData} {ps : List Str} {sp : Sp} (F : FnOk P w K mg base CX0 k f fd ps sp) : FnOk P w K mg base CX k f fd ps sp :=
  ⟨F.len, fun A outer s H args us vs Q E hr e0 hb r h => codeAny_mono (F.run A outer s H args us vs Q E hr e0 hb r h) fun r s' hq => by
    cases r with
    | error e => exact False.elim hq
    | ok fl => cases fl <;> exact hq⟩
theorem fnOk_or {P : Program} {w : World} {K : PySem.W.Frag} {mg : Str → Option Value} {base : Heap} {CX : CXT} {k : Nat} {f : Addr} {fd : FuncData} {ps : List Str} {sp sp' : Sp} (F : FnOk P w K mg base CX k f fd ps sp) (G : FnOk P w K mg base CX k f fd ps sp') :
    FnOk P w K mg base CX k f fd ps (fun vs H Q E => sp vs H Q E ∨ sp' vs H Q E) :=
  ⟨fun vs H Q E h => h.elim (F.len vs H Q E) (G.len vs H Q E), fun A outer s H args us vs Q E hr e0 hb r h => h.elim (F.run A outer s H args us vs Q E hr e0 hb r) (G.run A outer s H args us vs Q E hr e0 hb r)⟩
/-- what is never reached -/
theorem pss_dead {X : L2.Cx} {st : List Stmt} : PSs X st (fun _ _ _ => False) := ⟨fun _ _ _ _ _ _ h => h.elim⟩
theorem pe_dead {X : L2.Cx} {e : Expr} : PE X e (fun _ _ _ => False) := ⟨fun _ _ _ _ _ _ h => h.elim⟩
end Pb
set_option Elab.async false
set_option linter.all false
set_option maxRecDepth 100000
set_option maxHeartbeats 4000000
namespace Pb
open PySem PySem.Spec PyProof.Rows L2
local macro_rules | `(tactic| walk_at "rd") => `(tactic| try simp only [L2.tSeq, L2.tRet, L2.tDrop, L2.tIfS, L2.tAsg, L2.gName, gT2, L2.tPar, L2.tTest, L2.tOp, L2.tUn, L2.tCB, L2.tCons, L2.tNil, L2.tNext, L2.tVar, L2.tC, tH, L2.tAnd, L2.tOr, L2.tNot, L2.tAndV, L2.tOrV, L2.tNotV, L2.tIf, L2.tB, L2.rI, L2.rI0, L2.rU, L2.rEq, L2.rNe, rIsN, L2.rGcd, L2.scal, L2.rIxT, L2.rIxL, L2.tTup, L2.tLst, L2.tChain, L2.tBM, L2.rAppend, L2.tSl, L2.tPart, L2.tNoPart, L2.rSlL, L2.rCat, tHmC, tHi, L2.tFld, L2.sFld, L2.tRevL, L2.rPopAt, L2.sDPut, L2.tDGet, L2.tDNotIn, L2.tDNewT, L2.start, L2.wipe, L2.cxOf, L2.Cx.nox, List.length_cons, List.length_nil, List.map_cons, List.map_nil, List.cons_append, List.nil_append, List.append_nil, List.getElem?_cons_zero, List.getElem?_cons_succ, List.set_cons_zero, List.set_cons_succ, List.replicate_succ, List.replicate_zero, Nat.reduceAdd, Nat.reduceSub, Nat.zero_add, Nat.add_zero, Nat.sub_self, Option.some.injEq, exists_eq_left', exists_eq_left, exists_and_left, List.cons.injEq, true_and, and_true, and_assoc, L2.V.bl.injEq, L2.V.int.injEq, L2.V.ref.injEq, if_true, if_false, Bool.false_eq_true, decide_true, decide_false, Bool.not_true, Bool.not_false, reduceCtorEq])
def top (i : Nat) : Stmt := PySem.Challenge.pw_pairbase_k05_refused.main.body.getD i (.Pass ⟨0, 0, 0, 0⟩)
/-- what the top leaves of built-in names and of constants -/
structure Txt (K : PySem.W.Frag) (mg : Str → Option Value) : Prop where
  z_int : mg "int" = none
  z_bool : mg "bool" = none
  z_tuple : mg "tuple" = none
  z_list : mg "list" = none
  z_set : mg "set" = none
  z_isinstance : mg "isinstance" = none
  z_len : mg "len" = none
  z_abs : mg "abs" = none
  z_all : mg "all" = none
  z_any : mg "any" = none
  z_reversed : mg "reversed" = none
  z_range : mg "range" = none
  z_enumerate : mg "enumerate" = none
  g_gcd : mg "gcd" = some (.builtin "math.gcd")
  g_LIMIT : ∃ t, mg "LIMIT" = some (.int 30 t)
  g_LEAST_SIZE : ∃ t, mg "LEAST_SIZE" = some (.int 2 t)
  g_ORIGIN : ∃ a, mg "ORIGIN" = some (.ref a) ∧ ∀ H, SqT K H a [.int 0, .int 0]


/-- what is no whole number -/
def NoNum (K : PySem.W.Frag) (H : Hp) (v : V) : Prop := ∃ t r, TyX K H v t ∧ PySem.W.kitOne K t (.type "int") = some r ∧ (r = true → PySem.W.kitOne K t (.type "bool") = some true)
/-- what is no pair -/
def NoPair (K : PySem.W.Frag) (H : Hp) (v : V) : Prop := (∃ t, TyX K H v t ∧ PySem.W.kitOne K t (.type "tuple") = some false) ∨
  ∃ a xs, v = .ref a ∧ SqT K H a xs ∧ (xs.length ≠ 2 ∨ ∃ x y, xs = [x, y] ∧ (NoNum K H x ∨ ((∃ i, x = .int i) ∧ NoNum K H y)))
def PairV (K : PySem.W.Frag) (H : Hp) (v : V) (b : Bool) : Prop := (b = true ∧ ∃ p, Pa K H v p) ∨ (b = false ∧ NoPair K H v)
def sp_need_pair (K : PySem.W.Frag) : Sp := fun vs H Q _ => ∃ u, vs = [u] ∧ ∃ p : P2, Pa K H u p ∧ Q .non H
def sp_need_base (K : PySem.W.Frag) : Sp := fun vs H Q _ => ∃ u, vs = [u] ∧ ∃ p : P2, Pa K H u p ∧ isB p = true ∧ Q .non H
/-- numbers that any number may be multiplied by -/
def Sm (p : P2) : Prop := (-(2 ^ 64) < p.1 ∧ p.1 < 2 ^ 64) ∧ -(2 ^ 64) < p.2 ∧ p.2 < 2 ^ 64
theorem isB_sm {b : P2} (h : isB b = true) : Sm b := by
  obtain ⟨h1, h2, _⟩ := isB_iff.mp h
  unfold Sm
  omega
theorem small_mul {i j : Int} (h : i.natAbs ≤ 1000000) : CMul i j := .inl (by omega)
theorem small_mul' {i j : Int} (h : j.natAbs ≤ 1000000) : CMul i j := .inr (by omega)

section
variable {P : Program} {w : World} {K : PySem.W.Frag} {mg : Str → Option Value} {base : Heap}
abbrev s_is_number : Stmt := top 12
def sp_is_number (K : PySem.W.Frag) : Sp := fun vs H Q _ => ∃ u, vs = [u] ∧ ((∃ i, u = .int i ∧ Q (.bl true) H) ∨ (NoNum K H u ∧ Q (.bl false) H))
theorem sc_is_number : FnScope ["thing"] ["thing"] (defScope s_is_number) := ⟨rfl, rfl, rfl, by decide +kernel, rfl, by decide +kernel, by decide +kernel⟩
theorem ok_is_number {f : Addr} {fd : FuncData} (F : Fun K "is_number" "is_number" s_is_number f fd) (T : Txt K mg) : FnOk P w K mg base CX0 1 f fd ["thing"] (sp_is_number K) := by
  refine F.ok sc_is_number (fun vs H Q E h => ?_) (fun cdv A outer s H vs Q E hr h => ?_)
  · obtain ⟨_, rfl, _⟩ := h; rfl
  · obtain ⟨u, rfl, h⟩ := h
    refine ⟨_, (pss_one (ps_ret (pe_and (pe_callB call_isN (by rfl) T.z_isinstance (by decide +kernel) (pa_cons (pv 0) (pa_cons (pe_bltn (v := .ty "int") (u := .type "int") (by rfl) T.z_int (by decide +kernel) rfl) pa_nil))) (pe_one (pe_not (pe_callB call_isN (by rfl) T.z_isinstance (by decide +kernel) (pa_cons (pv 0) (pa_cons (pe_bltn (v := .ty "bool") (u := .type "bool") (by rfl) T.z_bool (by decide +kernel) rfl) pa_nil)))))))), ?_⟩
    walk_at "rd"
    rcases h with ⟨i, rfl, q⟩ | ⟨⟨t, r, h1, h2, h3⟩, q⟩
    · refine ⟨_, .base (.int i), _, kit_ty (b := "int") (r := true) (by decide +kernel), ?_⟩
      walk_at "rd"
      exact ⟨_, .base (.int i), _, kit_ty (b := "bool") (r := false) (by decide +kernel), q⟩
    · refine ⟨t, h1, r, h2, ?_⟩
      cases r with
      | true => exact ⟨t, h1, true, h3 rfl, q⟩
      | false => exact q
abbrev s_is_pair : Stmt := top 13
def sp_is_pair (K : PySem.W.Frag) : Sp := fun vs H Q _ => ∃ u, vs = [u] ∧ ∃ b, PairV K H u b ∧ Q (.bl b) H
theorem sc_is_pair : FnScope ["thing"] ["thing"] (defScope s_is_pair) := ⟨rfl, rfl, rfl, by decide +kernel, rfl, by decide +kernel, by decide +kernel⟩
theorem ok_is_pair {f : Addr} {fd : FuncData} (F : Fun K "is_pair" "is_pair" s_is_pair f fd) (T : Txt K mg) (h_is_number : Has P w K mg base "is_number" 1 ["thing"] (sp_is_number K)) : FnOk P w K mg base CX0 2 f fd ["thing"] (sp_is_pair K) := by
  refine F.ok sc_is_pair (fun vs H Q E h => ?_) (fun cdv A outer s H vs Q E hr h => ?_)
  · obtain ⟨_, rfl, _⟩ := h; rfl
  · obtain ⟨u, rfl, b, h, q⟩ := h
    refine ⟨_, (pss_one (ps_ret (pe_and (pe_callB call_isN (by rfl) T.z_isinstance (by decide +kernel) (pa_cons (pv 0) (pa_cons (pe_bltn (v := .ty "tuple") (u := .type "tuple") (by rfl) T.z_tuple (by decide +kernel) rfl) pa_nil))) (pe_and (pe_cmpR op_eq (pe_callB call_len_seq (by rfl) T.z_len (by decide +kernel) (pa_cons (pv 0) pa_nil)) pe_int (nomark _)) (pe_and (pe_H h_is_number (hr.mono (by decide)) (by rfl) (pa_cons (pe_ix ix_tup (pv 0) pe_int (fun _ _ => rfl)) pa_nil)) (pe_one (pe_H h_is_number (hr.mono (by decide)) (by rfl) (pa_cons (pe_ix ix_tup (pv 0) pe_int (fun _ _ => rfl)) pa_nil)))))))), ?_⟩
    walk_at "rd"
    rcases h with ⟨rfl, p, a, rfl, hp⟩ | ⟨rfl, ⟨t, h1, h2⟩ | ⟨a, xs, rfl, hp, h⟩⟩
    · have hp := SqT.of (K := K) hp
      refine ⟨_, SqT.ty hp, true, kit_ty (b := "tuple") (by decide +kernel), ?_⟩
      walk_at "rd"
      refine ⟨_, .inr hp, ?_⟩
      rw [if_pos (by rfl)]
      refine ⟨_, hp, _, rfl, _, rfl, .inl ⟨_, rfl, true, rfl, ?_⟩⟩
      walk_at "rd"
      exact ⟨_, hp, _, rfl, _, rfl, .inl ⟨_, rfl, q⟩⟩
    · exact ⟨t, h1, false, h2, q⟩
    · refine ⟨_, SqT.ty hp, true, kit_ty (b := "tuple") (by decide +kernel), ?_⟩
      walk_at "rd"
      refine ⟨_, .inr hp, ?_⟩
      rcases h with h | ⟨x, y, rfl, h⟩
      · rw [if_neg (by rw [decide_eq_true_eq]; omega)]
        exact q
      · rw [if_pos (by rfl)]
        refine ⟨_, hp, _, rfl, ?_⟩
        rcases h with h | ⟨⟨i, rfl⟩, h⟩
        · exact ⟨_, rfl, .inr ⟨h, false, rfl, q⟩⟩
        · refine ⟨_, rfl, .inl ⟨_, rfl, true, rfl, ?_⟩⟩
          walk_at "rd"
          exact ⟨_, hp, _, rfl, _, rfl, .inr ⟨h, q⟩⟩
abbrev s_squares : Stmt := top 17
def sp_squares (K : PySem.W.Frag) : Sp := fun vs H Q _ => ∃ u, vs = [u] ∧ ∃ p : P2, Pa K H u p ∧ p.1.natAbs ≤ 30 ∧ p.2.natAbs ≤ 30 ∧ Q (.int (nm p)) H
theorem sc_squares : FnScope ["pair", "first", "second"] ["pair"] (defScope s_squares) := ⟨rfl, rfl, rfl, by decide +kernel, rfl, by decide +kernel, by decide +kernel⟩
theorem ok_squares {f : Addr} {fd : FuncData} (F : Fun K "squares" "squares" s_squares f fd) (T : Txt K mg) : FnOk P w K mg base CX0 1 f fd ["pair"] (sp_squares K) := by
  refine F.ok sc_squares (fun vs H Q E h => ?_) (fun cdv A outer s H vs Q E hr h => ?_)
  · obtain ⟨_, rfl, _⟩ := h; rfl
  · obtain ⟨u, rfl, p, ⟨a, rfl, h⟩, h1, h2, q⟩ := h
    refine ⟨_, (pss_cons (ps_asg (pv 0) (pg_2 (pg_tup rfl (pgs_cons (pg_name (i := 1) sc_squares.nd rfl (Or.inl rfl)) (pgs_cons (pg_name (i := 2) sc_squares.nd rfl (Or.inl rfl)) pgs_nil)))))
      (pss_one (ps_ret (pe_op op_add (pe_op op_mul (pv 1) (pv 1)) (pe_op op_mul (pv 2) (pv 2)))))), ?_⟩
    walk_at "rd"
    refine ⟨_, _, SqT.of h, ?_⟩
    walk_at "rd"
    exact ⟨small_mul (by omega), small_mul (by omega), q⟩
abbrev s_is_base : Stmt := top 14
def sp_is_base (K : PySem.W.Frag) : Sp := fun vs H Q _ => ∃ u, vs = [u] ∧ ((NoPair K H u ∧ Q (.bl false) H) ∨ ∃ p : P2, Pa K H u p ∧ Q (.bl (isB p)) H)
theorem sc_is_base : FnScope ["thing", "first", "second"] ["thing"] (defScope s_is_base) := ⟨rfl, rfl, rfl, by decide +kernel, rfl, by decide +kernel, by decide +kernel⟩
theorem ok_is_base {f : Addr} {fd : FuncData} (F : Fun K "is_base" "is_base" s_is_base f fd) (T : Txt K mg) (h_is_pair : Has P w K mg base "is_pair" 2 ["thing"] (sp_is_pair K)) (h_squares : Has P w K mg base "squares" 1 ["pair"] (sp_squares K)) : FnOk P w K mg base CX0 3 f fd ["thing"] (sp_is_base K) := by
  refine F.ok sc_is_base (fun vs H Q E h => ?_) (fun cdv A outer s H vs Q E hr h => ?_)
  · obtain ⟨_, rfl, _⟩ := h; rfl
  · obtain ⟨u, rfl, h⟩ := h
    obtain ⟨_, g_LIMIT⟩ := T.g_LIMIT
    obtain ⟨_, g_LEAST_SIZE⟩ := T.g_LEAST_SIZE
    refine ⟨_, (pss_cons (ps_if (pt_not (pt_val (pe_H h_is_pair (hr.mono (by decide)) (by rfl) (pa_cons (pv 0) pa_nil)))) (pss_one (ps_ret pe_bl)) pss_nil)
      (pss_cons (ps_asg (pv 0) (pg_2 (pg_tup rfl (pgs_cons (pg_name (i := 1) sc_is_base.nd rfl (Or.inl rfl)) (pgs_cons (pg_name (i := 2) sc_is_base.nd rfl (Or.inl rfl)) pgs_nil)))))
      (pss_cons (ps_if (PW.pt (pw_or (pt_cmpR op_gt (pe_callB call_abs (by rfl) T.z_abs (by decide +kernel) (pa_cons (pv 1) pa_nil)) (pe_glob (by rfl) g_LIMIT (show RelV (.int 30) _ from ⟨_, rfl⟩)) (nomark _)) (pw_or1 (pt_cmpR op_gt (pe_callB call_abs (by rfl) T.z_abs (by decide +kernel) (pa_cons (pv 2) pa_nil)) (pe_glob (by rfl) g_LIMIT (show RelV (.int 30) _ from ⟨_, rfl⟩)) (nomark _))))) (pss_one (ps_ret pe_bl)) pss_nil)
      (pss_one (ps_ret (pe_and (pe_cmpR op_eq (pe_callBfun cr_gcd (by rfl) T.g_gcd (pa_cons (pv 1) (pa_cons (pv 2) pa_nil))) pe_int (nomark _)) (pe_one (pe_cmpR op_ge (pe_H h_squares (hr.mono (by decide)) (by rfl) (pa_cons (pv 0) pa_nil)) (pe_glob (by rfl) g_LEAST_SIZE (show RelV (.int 2) _ from ⟨_, rfl⟩)) (nomark _))))))))), ?_⟩
    walk_at "rd"
    rcases h with ⟨n, q⟩ | ⟨p, hp, q⟩
    · refine ⟨_, rfl, false, .inr ⟨rfl, n⟩, false, rfl, ?_⟩
      walk_at "rd"
      exact q
    · refine ⟨_, rfl, true, .inl ⟨rfl, p, hp⟩, true, rfl, ?_⟩
      obtain ⟨a, rfl, h⟩ := id hp
      walk_at "rd"
      refine ⟨_, _, SqT.of h, ?_⟩
      walk_at "rd"
      have ab : ∀ i : Int, (if i < 0 then -i else i) = (i.natAbs : Int) := fun i => by
        split <;> omega
      simp only [ab]
      by_cases c1 : p.1.natAbs ≤ 30
      · rw [if_neg (by rw [decide_eq_true_eq]; omega)]
        by_cases c2 : p.2.natAbs ≤ 30
        · rw [decide_eq_false (show ¬ (30 : Int) < (p.2.natAbs : Int) by omega)]
          walk_at "rd"
          by_cases c3 : Nat.gcd p.1.natAbs p.2.natAbs = 1
          · rw [if_pos (by rw [decide_eq_true_eq, c3]; rfl)]
            refine ⟨_, rfl, p, ⟨a, rfl, h⟩, c1, c2, ?_⟩
            walk_at "rd"
            have e : isB p = decide (2 ≤ nm p) := by
              unfold isB
              rw [decide_eq_true c1, decide_eq_true c2, c3]
              rfl
            rw [← e]
            exact q
          · rw [if_neg (by rw [decide_eq_true_eq]; omega)]
            have e : isB p = false := by
              unfold isB
              rw [beq_eq_false_iff_ne.mpr c3]
              simp
            rw [← e]
            exact q
        · rw [decide_eq_true (show (30 : Int) < (p.2.natAbs : Int) by omega)]
          walk_at "rd"
          have e : isB p = false := by
            unfold isB
            rw [decide_eq_false c2]
            simp
          rw [← e]
          exact q
      · rw [if_pos (by rw [decide_eq_true_eq]; omega)]
        walk_at "rd"
        have e : isB p = false := by
          unfold isB
          rw [decide_eq_false c1]
          simp
        rw [← e]
        exact q
abbrev s_need_base : Stmt := top 15
theorem sc_need_base : FnScope ["thing"] ["thing"] (defScope s_need_base) := ⟨rfl, rfl, rfl, by decide +kernel, rfl, by decide +kernel, by decide +kernel⟩
theorem ok_need_base {f : Addr} {fd : FuncData} (F : Fun K "need_base" "need_base" s_need_base f fd) (T : Txt K mg) (h_is_base : Has P w K mg base "is_base" 3 ["thing"] (sp_is_base K)) : FnOk P w K mg base CX0 4 f fd ["thing"] (sp_need_base K) := by
  refine F.ok sc_need_base (fun vs H Q E h => ?_) (fun cdv A outer s H vs Q E hr h => ?_)
  · obtain ⟨_, rfl, _⟩ := h; rfl
  · obtain ⟨u, rfl, p, hp, hb, q⟩ := h
    refine ⟨_, (pss_one (ps_if (pt_not (pt_val (pe_H h_is_base (hr.mono (by decide)) (by rfl) (pa_cons (pv 0) pa_nil)))) (pss_one ps_never) pss_nil)), ?_⟩
    walk_at "rd"
    refine ⟨_, rfl, .inr ⟨p, hp, true, by rw [hb], ?_⟩⟩
    walk_at "rd"
    exact q
abbrev s_need_pair : Stmt := top 16
theorem sc_need_pair : FnScope ["thing"] ["thing"] (defScope s_need_pair) := ⟨rfl, rfl, rfl, by decide +kernel, rfl, by decide +kernel, by decide +kernel⟩
theorem ok_need_pair {f : Addr} {fd : FuncData} (F : Fun K "need_pair" "need_pair" s_need_pair f fd) (T : Txt K mg) (h_is_pair : Has P w K mg base "is_pair" 2 ["thing"] (sp_is_pair K)) : FnOk P w K mg base CX0 3 f fd ["thing"] (sp_need_pair K) := by
  refine F.ok sc_need_pair (fun vs H Q E h => ?_) (fun cdv A outer s H vs Q E hr h => ?_)
  · obtain ⟨_, rfl, _⟩ := h; rfl
  · obtain ⟨u, rfl, p, hp, q⟩ := h
    refine ⟨_, (pss_one (ps_if (pt_not (pt_val (pe_H h_is_pair (hr.mono (by decide)) (by rfl) (pa_cons (pv 0) pa_nil)))) (pss_one ps_never) pss_nil)), ?_⟩
    walk_at "rd"
    refine ⟨_, rfl, true, .inl ⟨rfl, p, hp⟩, true, rfl, ?_⟩
    walk_at "rd"
    exact q
abbrev s_times : Stmt := top 18
def sp_times (K : PySem.W.Frag) : Sp := fun vs H Q _ => ∃ u v, vs = [u, v] ∧ ∃ p q : P2, Pa K H u p ∧ Pa K H v q ∧ (Sm p ∨ Sm q) ∧ ∀ x H', Same H H' → Pa K H' x (tm p q) → Q x H'
theorem sc_times : FnScope ["one", "other", "a", "b", "c", "d"] ["one", "other"] (defScope s_times) := ⟨rfl, rfl, rfl, by decide +kernel, rfl, by decide +kernel, by decide +kernel⟩
theorem ok_times {f : Addr} {fd : FuncData} (F : Fun K "times" "times" s_times f fd) (T : Txt K mg) (h_need_pair : Has P w K mg base "need_pair" 3 ["thing"] (sp_need_pair K)) : FnOk P w K mg base CX0 4 f fd ["one", "other"] (sp_times K) := by
  refine F.ok sc_times (fun vs H Q E h => ?_) (fun cdv A outer s H vs Q E hr h => ?_)
  · obtain ⟨_, _, rfl, _⟩ := h; rfl
  · obtain ⟨u, v, rfl, p, q, ⟨a, rfl, h1⟩, ⟨b, rfl, h2⟩, hs, k⟩ := h
    refine ⟨_, (pss_cons (ps_expr (pe_H h_need_pair (hr.mono (by decide)) (by rfl) (pa_cons (pv 0) pa_nil)))
      (pss_cons (ps_expr (pe_H h_need_pair (hr.mono (by decide)) (by rfl) (pa_cons (pv 1) pa_nil)))
      (pss_cons (ps_asg (pv 0) (pg_2 (pg_tup rfl (pgs_cons (pg_name (i := 2) sc_times.nd rfl (Or.inl rfl)) (pgs_cons (pg_name (i := 3) sc_times.nd rfl (Or.inl rfl)) pgs_nil)))))
      (pss_cons (ps_asg (pv 1) (pg_2 (pg_tup rfl (pgs_cons (pg_name (i := 4) sc_times.nd rfl (Or.inl rfl)) (pgs_cons (pg_name (i := 5) sc_times.nd rfl (Or.inl rfl)) pgs_nil)))))
      (pss_one (ps_ret (pe_tup (pa_cons (pe_op op_sub (pe_op op_mul (pv 2) (pv 4)) (pe_op op_mul (pv 3) (pv 5))) (pa_cons (pe_op op_add (pe_op op_mul (pv 2) (pv 5)) (pe_op op_mul (pv 3) (pv 4))) pa_nil))))))))), ?_⟩
    walk_at "rd"
    refine ⟨_, rfl, p, ⟨a, rfl, h1⟩, _, rfl, q, ⟨b, rfl, h2⟩, ?_⟩
    walk_at "rd"
    refine ⟨_, _, SqT.of h1, _, _, SqT.of h2, ?_⟩
    walk_at "rd"
    have m : ∀ i j : Int, ((-(2 ^ 64) < i ∧ i < 2 ^ 64) ∨ (-(2 ^ 64) < j ∧ j < 2 ^ 64)) → CMul i j := fun i j z => z
    refine ⟨m _ _ ?_, m _ _ ?_, m _ _ ?_, m _ _ ?_, small_size (by decide), fun t ht => k _ _ (same_upd ht) Pa.new⟩
    all_goals (rcases hs with ⟨⟨x1, x2⟩, x3, x4⟩ | ⟨⟨x1, x2⟩, x3, x4⟩ <;> omega)
abbrev s_size : Stmt := top 19
def sp_size (K : PySem.W.Frag) : Sp := fun vs H Q _ => ∃ u, vs = [u] ∧ ∃ p : P2, Pa K H u p ∧ isB p = true ∧ Q (.int (nm p)) H
theorem sc_size : FnScope ["base"] ["base"] (defScope s_size) := ⟨rfl, rfl, rfl, by decide +kernel, rfl, by decide +kernel, by decide +kernel⟩
theorem ok_size {f : Addr} {fd : FuncData} (F : Fun K "size" "size" s_size f fd) (T : Txt K mg) (h_need_base : Has P w K mg base "need_base" 4 ["thing"] (sp_need_base K)) (h_squares : Has P w K mg base "squares" 1 ["pair"] (sp_squares K)) : FnOk P w K mg base CX0 5 f fd ["base"] (sp_size K) := by
  refine F.ok sc_size (fun vs H Q E h => ?_) (fun cdv A outer s H vs Q E hr h => ?_)
  · obtain ⟨_, rfl, _⟩ := h; rfl
  · obtain ⟨u, rfl, p, hp, hb, k⟩ := h
    refine ⟨_, (pss_cons (ps_expr (pe_H h_need_base (hr.mono (by decide)) (by rfl) (pa_cons (pv 0) pa_nil)))
      (pss_one (ps_ret (pe_H h_squares (hr.mono (by decide)) (by rfl) (pa_cons (pv 0) pa_nil))))), ?_⟩
    walk_at "rd"
    obtain ⟨b1, b2, _⟩ := isB_iff.mp hb
    exact ⟨_, rfl, p, hp, hb, _, rfl, p, hp, b1, b2, k⟩
abbrev s_inverse : Stmt := top 22
def sp_inverse : Sp := fun vs H Q _ => ∃ u v, vs = [u, v] ∧ ∃ a n : Int, u = .int a ∧ v = .int n ∧ 0 < n ∧ n ≤ 1000000 ∧ ∀ H', Same H H' → Q (.int (inv a n)) H'
theorem sc_inverse : FnScope ["number", "many", "larger", "smaller", "found", "other", "quotient"] ["number", "many"] (defScope s_inverse) := ⟨rfl, rfl, rfl, by decide +kernel, rfl, by decide +kernel, by decide +kernel⟩
theorem ok_inverse {f : Addr} {fd : FuncData} (F : Fun K "inverse" "inverse" s_inverse f fd) (T : Txt K mg) : FnOk P w K mg base CX0 1 f fd ["number", "many"] sp_inverse := by
  refine F.ok sc_inverse (fun vs H Q E h => ?_) (fun cdv A outer s H vs Q E hr h => ?_)
  · obtain ⟨_, _, rfl, _⟩ := h; rfl
  · obtain ⟨u, v, rfl, a, n, rfl, rfl, n0, n1, k⟩ := h
    refine ⟨_, (pss_cons (ps_par (i := 2) (j := 3) (by rfl) sc_inverse.nd rfl rfl (by decide) rfl rfl (pa_cons (pe_op op_mod (pv 0) (pv 1)) (pa_cons (pv 1) pa_nil)) (by rfl))
      (pss_cons (ps_asg (pe_tup (pa_cons pe_int (pa_cons pe_int pa_nil))) (pg_2 (pg_tup rfl (pgs_cons (pg_name (i := 4) sc_inverse.nd rfl (Or.inl rfl)) (pgs_cons (pg_name (i := 5) sc_inverse.nd rfl (Or.inl rfl)) pgs_nil)))))
      (pss_cons (ps_while PassesOwn.never (pt_cmpR op_gt (pv 3) pe_int (nomark _)) (pss_cons (ps_set (i := 6) sc_inverse.nd rfl (Or.inl rfl) (pe_op op_fdiv (pv 2) (pv 3)))
      (pss_cons (ps_par (i := 2) (j := 3) (by rfl) sc_inverse.nd rfl rfl (by decide) rfl rfl (pa_cons (pv 3) (pa_cons (pe_op op_sub (pv 2) (pe_op op_mul (pv 6) (pv 3))) pa_nil)) (by rfl))
      (pss_one (ps_par (i := 4) (j := 5) (by rfl) sc_inverse.nd rfl rfl (by decide) rfl rfl (pa_cons (pv 5) (pa_cons (pe_op op_sub (pv 4) (pe_op op_mul (pv 6) (pv 5))) pa_nil)) (by rfl))))))
      (pss_one (ps_ret (pv 4)))))), ?_⟩
    walk_at "rd"
    have e0 : eu (n.toNat + 1) (a % n) n 1 0 = inv a n := rfl
    have a0 := Int.emod_nonneg a (show n ≠ 0 by omega)
    have a1 := Int.emod_lt_of_pos a n0
    refine ⟨n0, small_size (by decide), fun t ht => ⟨_, _, SqT.new, ?_⟩⟩
    walk_at "rd"
    have Q' : ∀ H', Same H H' → Q (.int (inv a n)) H' := k
    obtain ⟨W, hW⟩ : ∃ W : Nat → L2.St → Hp → Prop, ∀ m σ' H', W m σ' H' ↔ ∃ l s f o q, σ' = [some (.int a), some (.int n), some (.int l), some (.int s), some (.int f), some (.int o), q] ∧ Same H H' ∧ m = s.toNat ∧ (0 ≤ s ∧ s ≤ n) ∧ (0 ≤ l ∧ l ≤ n) ∧ eu (s.toNat + 1) l s f o = inv a n := ⟨_, fun _ _ _ => Iff.rfl⟩
    refine ⟨W, ⟨_, (hW _ _ _).mpr ⟨a % n, n, 1, 0, none, rfl, same_upd ht, rfl, ⟨by omega, by omega⟩, ⟨a0, by omega⟩, e0⟩⟩, fun m σ' H' w => ?_⟩
    obtain ⟨l, s, f, o, q, rfl, hs, rfl, ⟨s0, s1⟩, ⟨l0, l1⟩, he⟩ := (hW _ _ _).mp w
    walk_at "rd"
    by_cases c : 0 < s
    · rw [if_pos (decide_eq_true c)]
      refine ⟨_, fun σ'' H'' z => z, ?_⟩
      have q0 : 0 ≤ l / s := Int.ediv_nonneg l0 s0
      have q1 : l / s ≤ l := Int.ediv_le_self _ l0
      have r : l - l / s * s = l % s := by
        rw [Int.emod_def, Int.mul_comm]
      have r0 := Int.emod_nonneg l (show s ≠ 0 by omega)
      have r1 := Int.emod_lt_of_pos l c
      refine ⟨⟨c, by omega⟩, small_mul (by omega), small_mul (by omega), ?_⟩
      refine ⟨(l % s).toNat, by omega, (hW _ _ _).mpr ⟨s, l % s, o, f - l / s * o, some (.int (l / s)), by rw [r], hs, rfl, ⟨r0, by omega⟩, ⟨s0, s1⟩, ?_⟩⟩
    
      rw [← he]
      conv => rhs; unfold eu
      rw [if_pos c, r]
      exact eu_fuel _ _ _ _ _ _ _ (by omega) (by omega) (Nat.le_refl _) r0
    · rw [if_neg (by rw [decide_eq_true_eq]; exact c)]
      have e : s = 0 := by omega
      have ef : f = inv a n := by
        rw [← he, e]
        rfl
      rw [ef]
      exact Q' _ hs
abbrev s_like_second_unit : Stmt := top 21
def sp_like_second_unit (K : PySem.W.Frag) : Sp := fun vs H Q _ => ∃ u, vs = [u] ∧ ∃ p : P2, Pa K H u p ∧ isB p = true ∧ ∀ H', Same H H' → Q (.int (lsu p)) H'
theorem sc_like_second_unit : FnScope ["base"] ["base"] (defScope s_like_second_unit) := ⟨rfl, rfl, rfl, by decide +kernel, rfl, by decide +kernel, by decide +kernel⟩
theorem ok_like_second_unit {f : Addr} {fd : FuncData} (F : Fun K "like_second_unit" "like_second_unit" s_like_second_unit f fd) (T : Txt K mg) (h_inverse : Has P w K mg base "inverse" 1 ["number", "many"] sp_inverse) (h_squares : Has P w K mg base "squares" 1 ["pair"] (sp_squares K)) : FnOk P w K mg base CX0 2 f fd ["base"] (sp_like_second_unit K) := by
  refine F.ok sc_like_second_unit (fun vs H Q E h => ?_) (fun cdv A outer s H vs Q E hr h => ?_)
  · obtain ⟨_, rfl, _⟩ := h; rfl
  · obtain ⟨u, rfl, p, ⟨a, rfl, h⟩, hb, k⟩ := h
    refine ⟨_, (pss_one (ps_ret (pe_op op_mul (pe_ix ix_tup (pv 0) pe_int (fun _ _ => rfl)) (pe_H h_inverse (hr.mono (by decide)) (by rfl) (pa_cons (pe_ix ix_tup (pv 0) pe_int (fun _ _ => rfl)) (pa_cons (pe_H h_squares (hr.mono (by decide)) (by rfl) (pa_cons (pv 0) pa_nil)) pa_nil)))))), ?_⟩
    walk_at "rd"
    obtain ⟨b1, b2, _, b4⟩ := isB_iff.mp hb
    have g := good hb
    refine ⟨_, SqT.of h, _, rfl, _, SqT.of h, _, rfl, _, rfl, p, ⟨a, rfl, h⟩, b1, b2, ?_⟩
    refine ⟨_, _, rfl, _, _, rfl, rfl, by omega, by have := g.le; omega, fun H' hs => ?_⟩
    walk_at "rd"
    exact ⟨small_mul (by omega), k _ hs⟩
abbrev s_step : Stmt := top 20
/-- t is a tuple of the figure and of the next pair -/
def StepV (K : PySem.W.Frag) (H : Hp) (t : V) (f : Int) (z : P2) : Prop := ∃ a v, t = .ref a ∧ SqT K H a [.int f, v] ∧ Pa K H v z
def sp_step (K : PySem.W.Frag) : Sp := fun vs H Q _ => ∃ u v, vs = [u, v] ∧ ∃ b p : P2, Pa K H u b ∧ isB b = true ∧ Pa K H v p ∧ ∀ t H', Same H H' → StepV K H' t (fig b p) (nxt b p) → Q t H'
theorem sc_step : FnScope ["base", "pair", "many", "figure", "turned", "first", "second"] ["base", "pair"] (defScope s_step) := ⟨rfl, rfl, rfl, by decide +kernel, rfl, by decide +kernel, by decide +kernel⟩
theorem ok_step {f : Addr} {fd : FuncData} (F : Fun K "step" "step" s_step f fd) (T : Txt K mg) (h_need_base : Has P w K mg base "need_base" 4 ["thing"] (sp_need_base K)) (h_need_pair : Has P w K mg base "need_pair" 3 ["thing"] (sp_need_pair K)) (h_squares : Has P w K mg base "squares" 1 ["pair"] (sp_squares K)) (h_like_second_unit : Has P w K mg base "like_second_unit" 2 ["base"] (sp_like_second_unit K)) (h_times : Has P w K mg base "times" 4 ["one", "other"] (sp_times K)) : FnOk P w K mg base CX0 5 f fd ["base", "pair"] (sp_step K) := by
  refine F.ok sc_step (fun vs H Q E h => ?_) (fun cdv A outer s H vs Q E hr h => ?_)
  · obtain ⟨_, _, rfl, _⟩ := h; rfl
  · obtain ⟨u, v, rfl, b, p, ⟨a, rfl, h1⟩, hb, ⟨c, rfl, h2⟩, k⟩ := h
    refine ⟨_, (pss_cons (ps_expr (pe_H h_need_base (hr.mono (by decide)) (by rfl) (pa_cons (pv 0) pa_nil)))
      (pss_cons (ps_expr (pe_H h_need_pair (hr.mono (by decide)) (by rfl) (pa_cons (pv 1) pa_nil)))
      (pss_cons (ps_set (i := 2) sc_step.nd rfl (Or.inl rfl) (pe_H h_squares (hr.mono (by decide)) (by rfl) (pa_cons (pv 0) pa_nil)))
      (pss_cons (ps_set (i := 3) sc_step.nd rfl (Or.inl rfl) (pe_op op_mod (pe_op op_add (pe_ix ix_tup (pv 1) pe_int (fun _ _ => rfl)) (pe_op op_mul (pe_ix ix_tup (pv 1) pe_int (fun _ _ => rfl)) (pe_H h_like_second_unit (hr.mono (by decide)) (by rfl) (pa_cons (pv 0) pa_nil)))) (pv 2)))
      (pss_cons (ps_set (i := 4) sc_step.nd rfl (Or.inl rfl) (pe_tup (pa_cons (pe_ix ix_tup (pv 0) pe_int (fun _ _ => rfl)) (pa_cons (pe_un un_neg (pe_ix ix_tup (pv 0) pe_int (fun _ _ => rfl))) pa_nil))))
      (pss_cons (ps_asg (pe_H h_times (hr.mono (by decide)) (by rfl) (pa_cons (pe_tup (pa_cons (pe_op op_sub (pe_ix ix_tup (pv 1) pe_int (fun _ _ => rfl)) (pv 3)) (pa_cons (pe_ix ix_tup (pv 1) pe_int (fun _ _ => rfl)) pa_nil))) (pa_cons (pv 4) pa_nil))) (pg_2 (pg_tup rfl (pgs_cons (pg_name (i := 5) sc_step.nd rfl (Or.inl rfl)) (pgs_cons (pg_name (i := 6) sc_step.nd rfl (Or.inl rfl)) pgs_nil)))))
      (pss_one (ps_ret (pe_tup (pa_cons (pv 3) (pa_cons (pe_tup (pa_cons (pe_op op_fdiv (pv 5) (pv 2)) (pa_cons (pe_op op_fdiv (pv 6) (pv 2)) pa_nil))) pa_nil))))))))))), ?_⟩
    walk_at "rd"
    obtain ⟨b1, b2, _, b4⟩ := isB_iff.mp hb
    have g := good hb
    refine ⟨_, rfl, b, ⟨a, rfl, h1⟩, hb, _, rfl, p, ⟨c, rfl, h2⟩, _, rfl, b, ⟨a, rfl, h1⟩, b1, b2, ?_⟩
    refine ⟨_, SqT.of h2, _, rfl, _, SqT.of h2, _, rfl, _, rfl, b, ⟨a, rfl, h1⟩, hb, fun H1 s1 => ?_⟩
    walk_at "rd"
    have j1 := SqT.same s1 (SqT.of (K := K) h1)
    have j2 := SqT.same s1 (SqT.of (K := K) h2)
    have ls : (lsu b).natAbs ≤ 1000000 := by
      unfold lsu
      rw [Int.natAbs_mul]
      have := Nat.mul_le_mul b2 g.invS
      omega
    refine ⟨small_mul' ls, by omega, _, j1, _, rfl, _, j1, _, rfl, ?_⟩
    walk_at "rd"
    refine ⟨small_size (by decide), fun t ht => ?_⟩
    have s2 := s1.trans (same_upd (o := .tup [.int b.1, .int (-b.2)]) ht)
    have k1 := SqT.same s2 (SqT.of (K := K) h1)
    have k2 := SqT.same s2 (SqT.of (K := K) h2)
    refine ⟨_, k2, _, rfl, _, rfl, _, k2, _, rfl, small_size (by decide), fun t2 ht2 => ?_⟩
    have s3 : Same (upd H1 t (.tup [.int b.1, .int (-b.2)])) _ := same_upd (o := .tup [.int (p.1 - (p.1 + p.2 * lsu b) % nm b), .int p.2]) ht2
    refine ⟨_, _, rfl, (p.1 - fig b p, p.2), (b.1, -b.2), Pa.new, Pa.same s3 Pa.new, .inr ?_, fun x H2 s4 hx => ?_⟩
    · obtain ⟨⟨x1, x2⟩, x3, x4⟩ := isB_sm hb
      exact ⟨⟨x1, x2⟩, by show -(2 ^ 64) < -b.2; omega, by show -b.2 < 2 ^ 64; omega⟩
    · obtain ⟨d, rfl, hx⟩ := hx
      have nb : 0 < nm b ∧ nm b < 1073741824 := ⟨by omega, by have := g.le; omega⟩
      refine ⟨_, rfl, _, _, SqT.of hx, _, rfl, nb, _, rfl, nb, small_size (by decide), fun z hz => ⟨small_size (by decide), fun y hy => ?_⟩⟩
      have s5 : Same H2 _ := same_upd (o := .tup [.int ((tm (p.1 - fig b p, p.2) (b.1, -b.2)).1 / nm b), .int ((tm (p.1 - fig b p, p.2) (b.1, -b.2)).2 / nm b)]) hz
      refine k _ _ (s2.trans (s3.trans (s4.trans (s5.trans (same_upd hy))))) ⟨y, .ref z, rfl, SqT.new, ?_⟩
      exact Pa.same (same_upd hy) Pa.new
end
end Pb
set_option Elab.async false
set_option linter.all false
set_option maxRecDepth 100000
set_option maxHeartbeats 4000000
namespace Pb
open PySem PySem.Spec PyProof.Rows L2
local macro_rules | `(tactic| walk_at "rd") => `(tactic| try simp only [L2.tSeq, L2.tRet, L2.tDrop, L2.tIfS, L2.tAsg, L2.gName, gT2, L2.tPar, L2.tTest, L2.tOp, L2.tUn, L2.tCB, L2.tCons, L2.tNil, L2.tNext, L2.tVar, L2.tC, tH, L2.tAnd, L2.tOr, L2.tNot, L2.tAndV, L2.tOrV, L2.tNotV, L2.tIf, L2.tB, L2.rI, L2.rI0, L2.rU, L2.rEq, L2.rNe, rIsN, L2.rGcd, L2.scal, L2.rIxT, L2.rIxL, L2.tTup, L2.tLst, L2.tChain, L2.tBM, L2.rAppend, L2.tSl, L2.tPart, L2.tNoPart, L2.rSlL, L2.rCat, tHmC, tHi, L2.tFld, L2.sFld, L2.tRevL, L2.rPopAt, L2.sDPut, L2.tDGet, L2.tDNotIn, L2.tDNewT, L2.start, L2.wipe, L2.cxOf, L2.Cx.nox, List.length_cons, List.length_nil, List.map_cons, List.map_nil, List.cons_append, List.nil_append, List.append_nil, List.getElem?_cons_zero, List.getElem?_cons_succ, List.set_cons_zero, List.set_cons_succ, List.replicate_succ, List.replicate_zero, Nat.reduceAdd, Nat.reduceSub, Nat.zero_add, Nat.add_zero, Nat.sub_self, Option.some.injEq, exists_eq_left', exists_eq_left, exists_and_left, List.cons.injEq, true_and, and_true, and_assoc, L2.V.bl.injEq, L2.V.int.injEq, L2.V.ref.injEq, if_true, if_false, Bool.false_eq_true, decide_true, decide_false, Bool.not_true, Bool.not_false, reduceCtorEq])

theorem NoNum.same {K : PySem.W.Frag} {H H' : Hp} {v : V} (e : Same H H') (h : NoNum K H v) : NoNum K H' v := by
  obtain ⟨t, r, h1, h2⟩ := h
  exact ⟨t, r, TyX.same e h1, h2⟩
/-- whether what stands in a list is a figure below n -/
def FigV (K : PySem.W.Frag) (H : Hp) (n : Int) (v : V) (r : Bool) : Prop := (∃ i, v = .int i ∧ r = (decide (0 ≤ i) && decide (i < n))) ∨ (NoNum K H v ∧ r = false)
/-- whether a list of ints is a row -/
def rowB (b : P2) (ns : List Int) : Bool := (ns.all fun i => decide (0 ≤ i) && decide (i < nm b)) && !decide (ns.drop (ns.length - 1) = [0])

theorem rowB_iff {b : P2} {ns : List Int} : rowB b ns = true ↔ rowOk b ns := by
  unfold rowB rowOk figsOk
  rw [Bool.and_eq_true, List.all_eq_true, Bool.not_eq_true', decide_eq_false_iff_not, ← ne_eq, drop_last_ne]
  simp only [Bool.and_eq_true, decide_eq_true_eq]
theorem rowB_true {b : P2} {ns : List Int} (h : rowOk b ns) : rowB b ns = true := rowB_iff.mpr h
/-- what is no list -/
def NoList (K : PySem.W.Frag) (H : Hp) (v : V) : Prop := ∃ t, TyX K H v t ∧ PySem.W.kitOne K t (.type "list") = some false
theorem figs_ints {K : PySem.W.Frag} {H : Hp} {n : Int} : ∀ (ns : List Int), Paired (FigV K H n) (ns.map V.int) (ns.map fun i => decide (0 ≤ i) && decide (i < n))
  | [] => .nil
  | i :: ns => .cons (.inl ⟨i, rfl, rfl⟩) (figs_ints ns)
theorem paired_get {α β : Type} {R : α → β → Prop} : ∀ {xs : List α} {ys : List β} {i : Nat} {x : α} {y : β}, Paired R xs ys → xs[i]? = some x → ys[i]? = some y → R x y
  | _, _, _, _, _, .nil, e, _ => by simp at e
  | _, _, 0, _, _, .cons h _, e, e' => by
    simp at e e'
    subst e e'
    exact h
  | _, _, i + 1, _, _, .cons _ t, e, e' => paired_get (i := i) t (by simpa using e) (by simpa using e')
def sp_is_row (K : PySem.W.Frag) : Sp := fun vs H Q _ => ∃ u v, vs = [u, v] ∧ ∃ b : P2, Pa K H u b ∧ isB b = true ∧
  ((NoList K H v ∧ Q (.bl false) H) ∨ ∃ a xs rs, v = .ref a ∧ SqL K H a xs ∧ xs.length ≤ 1000000 ∧ Paired (FigV K H (nm b)) xs rs ∧
    ((rs.all id = false ∧ ∀ H', Same H H' → Q (.bl false) H') ∨ (rs.all id = true ∧ ∃ ns : List Int, xs = ns.map V.int ∧ ∀ H', Same H H' → Q (.bl (rowB b ns)) H')))
def sp_pair_of (K : PySem.W.Frag) : Sp := fun vs H Q _ => ∃ u v, vs = [u, v] ∧ ∃ b : P2, Pa K H u b ∧ isB b = true ∧ ∃ a, ∃ ns : List Int, v = .ref a ∧ SqL K H a (ns.map V.int) ∧ ∀ x H', Same H H' → Pa K H' x (rd b ns) → Q x H'
/-- a new list of ints -/
def NewI (H H' : Hp) (a : Addr) (ns : List Int) : Prop := Same H H' ∧ H a = none ∧ H' a = some (.lst (ns.map V.int))
/-- a new list of pairs -/
def NewP (K : PySem.W.Frag) (H H' : Hp) (a : Addr) (ps : List P2) : Prop := Same H H' ∧ H a = none ∧ ∃ vs, H' a = some (.lst vs) ∧ PaAll K H' vs ps
def sp_row_of (K : PySem.W.Frag) : Sp := fun vs H Q _ => ∃ u v, vs = [u, v] ∧ ∃ b p : P2, Pa K H u b ∧ isB b = true ∧ Pa K H v p ∧ ∃ k, Ends0 b p k ∧ k ≤ 100000 ∧ ∀ a H', NewI H H' a (figs b p k) → Q (.ref a) H'
def sp_round_from (K : PySem.W.Frag) : Sp := fun vs H Q _ => ∃ u v, vs = [u, v] ∧ ∃ b p : P2, Pa K H u b ∧ isB b = true ∧ Pa K H v p ∧ ∃ k, 0 < k ∧ k ≤ 100000 ∧ orb b p k = p ∧ (∀ i, 0 < i → i < k → orb b p i ≠ p) ∧ ∀ a H', NewP K H H' a ((List.range k).map (orb b p)) → Q (.ref a) H'
def sp_round_of (K : PySem.W.Frag) : Sp := fun vs H Q _ => ∃ u v, vs = [u, v] ∧ ∃ b p : P2, Pa K H u b ∧ isB b = true ∧ Pa K H v p ∧ ∃ m n, Cyc b p m n ∧ n ≤ 4900 ∧ ∀ a H', NewP K H H' a (orbs b p m n) → Q (.ref a) H'
def tellsB (b : P2) : Bool := decide (b.1 < 0) && decide (b.2.natAbs = 1)
theorem tellsB_iff {b : P2} : tellsB b = true ↔ tells b := by
  unfold tellsB tells
  rw [Bool.and_eq_true, decide_eq_true_eq, decide_eq_true_eq]
  constructor
  · rintro ⟨h1, h2⟩
    exact ⟨h1, by omega⟩
  · rintro ⟨h1, h2⟩
    exact ⟨h1, by omega⟩
def sp_tells_all (K : PySem.W.Frag) : Sp := fun vs H Q _ => ∃ u, vs = [u] ∧ ∃ b : P2, Pa K H u b ∧ isB b = true ∧ Q (.bl (tellsB b)) H
/-- whether pairs are a round's, begun at any of them -/
def sameB (ps qs : List P2) : Bool := decide (ps.length = qs.length) && (match ps with
  | [] => false
  | p :: _ => decide (p ∈ qs) && decide (qs.drop (qs.idxOf p) ++ qs.take (qs.idxOf p) = ps))
theorem idx_spec {qs : List P2} {p : P2} (h : p ∈ qs) : qs.idxOf p < qs.length ∧ qs[qs.idxOf p]? = some p ∧ ∀ m z, m < qs.idxOf p → qs[m]? = some z → z ≠ p := by
  induction qs with
  | nil => cases h
  | cons q qs ih =>
    by_cases c : q = p
    · subst c
      simp
    · have hm : p ∈ qs := (List.mem_cons.mp h).resolve_left fun e => c e.symm
      obtain ⟨i1, i2, i3⟩ := ih hm
      have e : (q :: qs).idxOf p = qs.idxOf p + 1 := by
        have c' : (q == p) = false := by simpa using c
        rw [List.idxOf_cons, c']
        rfl
      rw [e]
      refine ⟨by simp; omega, by simpa using i2, fun m z hm hz => ?_⟩
      cases m with
      | zero =>
        simp at hz
        rw [← hz]
        exact c
      | succ m => exact i3 m z (by omega) (by simpa using hz)
theorem SqL.same_upd {K : PySem.W.Frag} {H : Hp} {a d : Addr} {o : HO} {xs : List V} (h : H d = none) (q : SqL K H a xs) : SqL K (upd H d o) a xs := Same.seq (Pb.same_upd h) q
def sp_is_same_round (K : PySem.W.Frag) : Sp := fun vs H Q _ => ∃ u v, vs = [u, v] ∧ ∃ (a c : Addr) (ps qs : List P2), u = .ref a ∧ v = .ref c ∧ PaL K H a ps ∧ PaL K H c qs ∧ qs ≠ [] ∧ ps.length ≤ 100000 ∧ qs.length ≤ 100000 ∧ ∀ H', Same H H' → Q (.bl (sameB ps qs)) H'

section
variable {P : Program} {w : World} {K : PySem.W.Frag} {mg : Str → Option Value} {base : Heap}
abbrev s_is_row : Stmt := top 25
theorem sc_is_row : FnScope ["base", "thing", "many", "figure"] ["base", "thing"] (defScope s_is_row) := ⟨rfl, rfl, rfl, by decide +kernel, rfl, by decide +kernel, by decide +kernel⟩
theorem ok_is_row {f : Addr} {fd : FuncData} (F : Fun K "is_row" "is_row" s_is_row f fd) (T : Txt K mg) (h_size : Has P w K mg base "size" 5 ["base"] (sp_size K)) (h_is_number : Has P w K mg base "is_number" 1 ["thing"] (sp_is_number K)) : FnOk P w K mg base CX0 6 f fd ["base", "thing"] (sp_is_row K) := by
  refine F.ok sc_is_row (fun vs H Q E h => ?_) (fun cdv A outer s H vs Q E hr h => ?_)
  · obtain ⟨_, _, rfl, _⟩ := h; rfl
  · obtain ⟨u, v, rfl, b, hp, hb, h⟩ := h
    refine ⟨_, (pss_cons (ps_set (i := 2) sc_is_row.nd rfl (Or.inr rfl) (pe_H h_size (hr.mono (by decide)) (by rfl) (pa_cons (pv 0) pa_nil)))
      (pss_cons (ps_if (pt_not (pt_val (pe_callB call_isN (by rfl) T.z_isinstance (by decide +kernel) (pa_cons (pv 1) (pa_cons (pe_bltn (v := .ty "list") (u := .type "list") (by rfl) T.z_list (by decide +kernel) rfl) pa_nil))))) (pss_one (ps_ret pe_bl)) pss_nil)
      (pss_one (ps_ret (pe_and (pe_callB (cr_all rfl) (by rfl) T.z_all (by decide +kernel) (pa_cons (pe_lc (own := [("figure", 3)]) (tt := tYes) rfl sc_is_row.nd (pi_list (pv 1)) (blkOk_by (own := [("figure", 3)]) (N := ["base", "thing", "many", "figure"]) (sc := defScope s_is_row) (by decide +kernel)) (fun _ _ _ _ _ => (pg_name (i := 3) sc_is_row.nd rfl (Or.inl rfl))) (fun _ _ _ _ _ => pts_nil) (fun _ _ _ _ _ => (pe_and (pe_H h_is_number (hr.mono (by decide)) (by rfl) (pa_cons (pv 3) pa_nil)) (pe_one (pe_chain op_le op_lt pe_int (pv 3) (pv 2)))))) pa_nil)) (pe_one (pe_cmpR (op_neD hr.units) (pe_slice sl_list (pv 1) (po_some (pe_un un_neg pe_int)) po_none) (pe_lst (pa_cons pe_int pa_nil)) (nomark _)))))))), ?_⟩
    walk_at "rd"
    refine ⟨_, rfl, b, hp, hb, ?_⟩
    walk_at "rd"
    rcases h with ⟨⟨t, h1, h2⟩, q⟩ | ⟨a, xs, rs, rfl, hl, hz, hf, h⟩
    · refine ⟨t, h1, false, h2, ?_⟩
      walk_at "rd"
      exact q
    refine ⟨_, SqL.ty hl, true, kit_ty (b := "list") (by decide +kernel), ?_⟩
    walk_at "rd"
    have lf : (rs.map V.bl).length = xs.length := by
      rw [List.length_map, Paired.length hf]
    refine ⟨_, rfl, a, rfl, ⟨xs, hl⟩, fun D hD => lc_map (K := K) (xs := xs) (rs.map V.bl) lf (by omega) hl hD (fun i x y H1 R hx hy s1 r => ?_) (fun H1 s1 hL => ?_)⟩
    · rw [List.getElem?_map] at hy
      obtain ⟨r0, hr0, rfl⟩ := Option.map_eq_some_iff.mp hy
      walk_at "rd"
      rcases paired_get hf hx hr0 with ⟨z, rfl, e⟩ | ⟨hn, e⟩
      · refine ⟨_, rfl, .inl ⟨z, rfl, true, rfl, ?_⟩⟩
        walk_at "rd"
        by_cases c : 0 ≤ z
        · rw [if_pos (decide_eq_true c)]
          rw [decide_eq_true c, Bool.true_and] at e
          rw [← e]
          exact r _ (Same.refl _)
        · rw [if_neg (by rw [decide_eq_true_eq]; exact c)]
          rw [decide_eq_false c, Bool.false_and] at e
          rw [← e]
          exact r _ (Same.refl _)
      · refine ⟨_, rfl, .inr ⟨hn.same s1, false, rfl, ?_⟩⟩
        walk_at "rd"
        rw [← e]
        exact r _ (Same.refl _)
    · refine ⟨D, rs, rfl, .inl (.inl hL), ?_⟩
      rcases h with ⟨e, q⟩ | ⟨e, ns, rfl, q⟩
      · refine ⟨_, rfl, ?_⟩
        rw [e]
        exact q _ s1
      · refine ⟨_, rfl, ?_⟩
        rw [e]
        walk_at "rd"
        refine ⟨_, s1.seq hl, fun p np => ⟨small_size (by decide), fun p2 np2 => ?_⟩⟩
        have ec : cutV (ns.map V.int) (some (-1)) none = (ns.drop (ns.length - 1)).map V.int := by
          rw [cut_last, List.length_map, List.map_drop]
        rw [ec] at np2 ⊢
        refine ⟨iD (ns.drop (ns.length - 1)), iD [0], iD_dp (.inl (.inl (same_upd np2 _ _ upd_same))), iD_dp (ns := [0]) SqL.new, iD_shaped _, iD_shaped _, ?_⟩
        rw [iD_eqv]
        have er : rowB b ns = !decide (ns.drop (ns.length - 1) = [0]) := by
          unfold rowB
          have ea : (ns.all fun i => decide (0 ≤ i) && decide (i < nm b)) = true := by
            rw [List.all_eq_true]
            intro i hi
            obtain ⟨j, hj⟩ := List.mem_iff_getElem?.mp hi
            have hx : (ns.map V.int)[j]? = some (.int i) := by
              rw [List.getElem?_map, hj]
              rfl
            have jl : j < rs.length := by
              rw [← Paired.length hf]
              exact (List.getElem?_eq_some_iff.mp hx).1
            have hr := List.getElem?_eq_getElem jl
            have ht : rs[j] = true := List.all_eq_true.mp e _ (List.getElem_mem jl)
            rw [ht] at hr
            rcases paired_get hf hx hr with ⟨z, ez, e1⟩ | ⟨_, e1⟩
            · obtain rfl := V.int.inj ez
              exact e1.symm
            · cases e1
          rw [ea, Bool.true_and]
        rw [← er]
        exact q _ (s1.trans ((same_upd np).trans (same_upd np2)))
abbrev s_pair_of : Stmt := top 26
theorem sc_pair_of : FnScope ["base", "row", "first", "second", "figure"] ["base", "row"] (defScope s_pair_of) := ⟨rfl, rfl, rfl, by decide +kernel, rfl, by decide +kernel, by decide +kernel⟩
theorem ok_pair_of {f : Addr} {fd : FuncData} (F : Fun K "pair_of" "pair_of" s_pair_of f fd) (T : Txt K mg) (h_times : Has P w K mg base "times" 4 ["one", "other"] (sp_times K)) : FnOk P w K mg base CX0 5 f fd ["base", "row"] (sp_pair_of K) := by
  refine F.ok sc_pair_of (fun vs H Q E h => ?_) (fun cdv A outer s H vs Q E hr h => ?_)
  · obtain ⟨_, _, rfl, _⟩ := h; rfl
  · obtain ⟨u, v, rfl, b, hp, hb, a, ns, rfl, hl, k⟩ := h
    obtain ⟨oa, g_ORIGIN, hO⟩ := T.g_ORIGIN
    refine ⟨_, (pss_cons (ps_asg (pe_glob (by rfl) g_ORIGIN (show RelV (.ref oa) _ from rfl)) (pg_2 (pg_tup rfl (pgs_cons (pg_name (i := 2) sc_pair_of.nd rfl (Or.inl rfl)) (pgs_cons (pg_name (i := 3) sc_pair_of.nd rfl (Or.inl rfl)) pgs_nil)))))
      (pss_cons (ps_for PassesOwn.never rfl (pi_reversed (by rfl) T.z_reversed (pa_cons (pv 1) pa_nil)) (pg_name (i := 4) sc_pair_of.nd rfl (Or.inl rfl)) (pss_cons (ps_asg (pe_H h_times (hr.mono (by decide)) (by rfl) (pa_cons (pv 0) (pa_cons (pe_tup (pa_cons (pv 2) (pa_cons (pv 3) pa_nil))) pa_nil))) (pg_2 (pg_tup rfl (pgs_cons (pg_name (i := 2) sc_pair_of.nd rfl (Or.inl rfl)) (pgs_cons (pg_name (i := 3) sc_pair_of.nd rfl (Or.inl rfl)) pgs_nil)))))
      (pss_one (ps_set (i := 2) sc_pair_of.nd rfl (Or.inl rfl) (pe_op op_add (pv 2) (pv 4))))))
      (pss_one (ps_ret (pe_tup (pa_cons (pv 2) (pa_cons (pv 3) pa_nil))))))), ?_⟩
    walk_at "rd"
    refine ⟨_, _, hO H, ?_⟩
    obtain ⟨Z, hZ⟩ : ∃ Z : Nat → L2.St → Hp → Prop, ∀ i σ' H', Z i σ' H' ↔ ∃ q, σ' = [some u, some (.ref a), some (.int (rd b (ns.drop (ns.length - i))).1), some (.int (rd b (ns.drop (ns.length - i))).2), q] ∧ Same H H' := ⟨_, fun _ _ _ => Iff.rfl⟩
    refine ⟨_, rfl, a, ns.map V.int, rfl, hl, RT.for_Itv (K := K) (a := a) (xs := ns.map V.int) Z ((hZ _ _ _).mpr ⟨none, ?_, Same.refl H⟩) (fun i σ' H' w => ?_) (fun i x σ' H' hi hx w => ?_) (fun σ' H' w => ?_)⟩
    · rw [Nat.sub_zero, List.drop_length]
      rfl
    · obtain ⟨_, _, s1⟩ := (hZ _ _ _).mp w
      exact s1.seq hl
    · obtain ⟨q, rfl, s1⟩ := (hZ _ _ _).mp w
      rw [List.length_map] at hi hx
      rw [List.getElem?_map] at hx
      obtain ⟨f, hf, rfl⟩ := Option.map_eq_some_iff.mp hx
      walk_at "rd"
      refine ⟨small_size (by decide), fun p np => ⟨_, _, rfl, b, _, hp.same (s1.trans (same_upd np)), Pa.new, .inl (isB_sm hb), fun x H2 s2 hx2 => ?_⟩⟩
      obtain ⟨c, rfl, hc⟩ := hx2
      refine ⟨_, rfl, _, _, SqT.of hc, ?_⟩
      walk_at "rd"
      have e : rd b (ns.drop (ns.length - (i + 1))) = ((tm b (rd b (ns.drop (ns.length - i)))).1 + f, (tm b (rd b (ns.drop (ns.length - i)))).2) := by
        have e1 : ns.drop (ns.length - (i + 1)) = f :: ns.drop (ns.length - i) := by
          have hlt : ns.length - 1 - i < ns.length := by omega
          rw [show ns.length - (i + 1) = ns.length - 1 - i by omega, List.drop_eq_getElem_cons hlt, show ns.length - 1 - i + 1 = ns.length - i by omega]
          rw [List.getElem?_eq_getElem hlt] at hf
          rw [Option.some.inj hf]
        rw [e1]
        rfl
      exact (hZ _ _ _).mpr ⟨some (.int f), by rw [e], s1.trans ((same_upd np).trans s2)⟩
    · obtain ⟨q, rfl, s1⟩ := (hZ _ _ _).mp w
      rw [List.length_map, Nat.sub_self, List.drop_zero]
      walk_at "rd"
      exact ⟨small_size (by decide), fun p np => k _ _ (s1.trans (same_upd np)) Pa.new⟩
abbrev s_row_of : Stmt := top 27
theorem sc_row_of : FnScope ["base", "pair", "row", "rest", "figure"] ["base", "pair"] (defScope s_row_of) := ⟨rfl, rfl, rfl, by decide +kernel, rfl, by decide +kernel, by decide +kernel⟩
theorem ok_row_of {f : Addr} {fd : FuncData} (F : Fun K "row_of" "row_of" s_row_of f fd) (T : Txt K mg) (h_step : Has P w K mg base "step" 5 ["base", "pair"] (sp_step K)) : FnOk P w K mg base CX0 6 f fd ["base", "pair"] (sp_row_of K) := by
  refine F.ok sc_row_of (fun vs H Q E h => ?_) (fun cdv A outer s H vs Q E hr h => ?_)
  · obtain ⟨_, _, rfl, _⟩ := h; rfl
  · obtain ⟨u, v, rfl, b, p, hp, hb, hv, k, he, hk, q⟩ := h
    obtain ⟨oa, g_ORIGIN, hO⟩ := T.g_ORIGIN
    refine ⟨_, (pss_cons (ps_set (i := 2) sc_row_of.nd rfl (Or.inl rfl) (pe_lst pa_nil))
      (pss_cons (ps_set (i := 3) sc_row_of.nd rfl (Or.inl rfl) (pv 1))
      (pss_cons (ps_while PassesOwn.never (pt_cmpR (op_neD hr.units) (pv 3) (pe_glob (by rfl) g_ORIGIN (show RelV (.ref oa) _ from rfl)) (nomark _)) (pss_cons (ps_asg (pe_H h_step (hr.mono (by decide)) (by rfl) (pa_cons (pv 0) (pa_cons (pv 3) pa_nil))) (pg_2 (pg_tup rfl (pgs_cons (pg_name (i := 4) sc_row_of.nd rfl (Or.inl rfl)) (pgs_cons (pg_name (i := 3) sc_row_of.nd rfl (Or.inl rfl)) pgs_nil)))))
      (pss_one (ps_expr (pe_bm PySem.F.plainAttrs_list PySem.F.slot_list_append PySem.F.type_list_append mt_append (pv 2) (pa_cons (pv 4) pa_nil))))))
      (pss_one (ps_ret (pv 2)))))), ?_⟩
    walk_at "rd"
    refine ⟨small_size (by decide), fun l nl => ?_⟩
    obtain ⟨W, hW⟩ : ∃ W : Nat → L2.St → Hp → Prop, ∀ m σ' H', W m σ' H' ↔ ∃ i r f, σ' = [some u, some v, some (.ref l), some r, f] ∧ i ≤ k ∧ m = k - i ∧ Same H H' ∧ H' l = some (.lst ((figs b p i).map V.int)) ∧ Pa K H' r (orb b p i) := ⟨_, fun _ _ _ => Iff.rfl⟩
    refine ⟨W, ⟨_, (hW _ _ _).mpr ⟨0, v, none, rfl, Nat.zero_le k, rfl, same_upd nl, upd_same, hv.same (same_upd nl)⟩⟩, fun m σ' H' w => ?_⟩
    obtain ⟨i, r, f, rfl, hi, rfl, hs, hL, hr⟩ := (hW _ _ _).mp w
    walk_at "rd"
    have hod : Dp K H' (.ref oa) (pD (0, 0)) := pD_dp (hO H')
    refine ⟨_, _, hr.dp, hod, pD_shaped _, pD_shaped _, ?_⟩
    rw [pD_eqv]
    walk_at "rd"
    rcases Nat.lt_or_eq_of_le hi with c | c
    · rw [decide_eq_false (he.2 i c)]
      walk_at "rd"
      refine ⟨_, fun σ'' H'' z => z, ?_⟩
      refine ⟨_, _, rfl, b, _, hp.same hs, hb, hr, fun t H2 s2 ht => ?_⟩
      obtain ⟨ta, z, rfl, h1, h2⟩ := ht
      refine ⟨_, rfl, _, _, h1, ?_⟩
      walk_at "rd"
      have hL2 := s2 _ _ hL
      refine ⟨.inl ⟨rfl, _, SqL.of hL2⟩, _, hL2, by rw [List.length_map, figs, List.length_map, List.length_range]; exact small_size_lt (by omega), ?_⟩
      have ef : (figs b p i).map V.int ++ [V.int (fig b (orb b p i))] = (figs b p (i + 1)).map V.int := by
        unfold figs
        rw [List.range_succ, List.map_append, List.map_append]
        rfl
      rw [ef]
      refine ⟨k - (i + 1), by omega, (hW _ _ _).mpr ⟨i + 1, z, _, rfl, c, rfl, fun x o e => ?_, upd_same, ?_⟩⟩
      · rw [upd_ne (ne_of_none e nl)]
        exact s2 _ _ (hs _ _ e)
      · exact h2.upd hL2 (by intro xs q; cases q)
    · subst c
      rw [he.1, decide_eq_true rfl]
      walk_at "rd"
      exact q _ _ ⟨hs, nl, hL⟩
abbrev s_round_from : Stmt := top 29
theorem sc_round_from : FnScope ["base", "start", "found", "_", "here"] ["base", "start"] (defScope s_round_from) := ⟨rfl, rfl, rfl, by decide +kernel, rfl, by decide +kernel, by decide +kernel⟩
theorem ok_round_from {f : Addr} {fd : FuncData} (F : Fun K "round_from" "round_from" s_round_from f fd) (T : Txt K mg) (h_step : Has P w K mg base "step" 5 ["base", "pair"] (sp_step K)) : FnOk P w K mg base CX0 6 f fd ["base", "start"] (sp_round_from K) := by
  refine F.ok sc_round_from (fun vs H Q E h => ?_) (fun cdv A outer s H vs Q E hr h => ?_)
  · obtain ⟨_, _, rfl, _⟩ := h; rfl
  · obtain ⟨u, v, rfl, b, p, hp, hb, hv, k, h0, hk, e, hne, q⟩ := h
    refine ⟨_, (pss_cons (ps_set (i := 2) sc_round_from.nd rfl (Or.inl rfl) (pe_lst (pa_cons (pv 1) pa_nil)))
      (pss_cons (ps_asg (pe_H h_step (hr.mono (by decide)) (by rfl) (pa_cons (pv 0) (pa_cons (pv 1) pa_nil))) (pg_2 (pg_tup rfl (pgs_cons (pg_name (i := 3) sc_round_from.nd rfl (Or.inl rfl)) (pgs_cons (pg_name (i := 4) sc_round_from.nd rfl (Or.inl rfl)) pgs_nil)))))
      (pss_cons (ps_while PassesOwn.never (pt_cmpR (op_neD hr.units) (pv 4) (pv 1) (nomark _)) (pss_cons (ps_expr (pe_bm PySem.F.plainAttrs_list PySem.F.slot_list_append PySem.F.type_list_append mt_append (pv 2) (pa_cons (pv 4) pa_nil)))
      (pss_one (ps_asg (pe_H h_step (hr.mono (by decide)) (by rfl) (pa_cons (pv 0) (pa_cons (pv 4) pa_nil))) (pg_2 (pg_tup rfl (pgs_cons (pg_name (i := 3) sc_round_from.nd rfl (Or.inl rfl)) (pgs_cons (pg_name (i := 4) sc_round_from.nd rfl (Or.inl rfl)) pgs_nil))))))))
      (pss_one (ps_ret (pv 2)))))), ?_⟩
    walk_at "rd"
    refine ⟨small_size (by decide), fun l nl => ?_⟩
    have hs0 : Same H (upd H l (.lst [v])) := same_upd nl
    refine ⟨_, _, rfl, b, p, hp.same hs0, hb, hv.same hs0, fun t H1 s1 ht => ?_⟩
    obtain ⟨ta, y, rfl, h1, h2⟩ := ht
    refine ⟨_, rfl, _, _, h1, ?_⟩
    obtain ⟨W, hW⟩ : ∃ W : Nat → L2.St → Hp → Prop, ∀ m σ' H', W m σ' H' ↔ ∃ i r f vs, σ' = [some u, some v, some (.ref l), f, some r] ∧ 0 < i ∧ i ≤ k ∧ m = k - i ∧ Same H H' ∧ H' l = some (.lst vs) ∧ PaAll K H' vs ((List.range i).map (orb b p)) ∧ Pa K H' r (orb b p i) := ⟨_, fun _ _ _ => Iff.rfl⟩
    refine ⟨W, ⟨_, (hW _ _ _).mpr ⟨1, y, _, [v], rfl, by omega, by omega, rfl, hs0.trans s1, s1 _ _ upd_same, .cons (hv.same (hs0.trans s1)) .nil, h2⟩⟩, fun m σ' H' w => ?_⟩
    obtain ⟨i, r, f, vs, rfl, hi0, hi, rfl, hs, hL, hvs, hr⟩ := (hW _ _ _).mp w
    walk_at "rd"
    refine ⟨_, _, hr.dp, (hv.same hs).dp, pD_shaped _, pD_shaped _, ?_⟩
    rw [pD_eqv]
    walk_at "rd"
    rcases Nat.lt_or_eq_of_le hi with c | c
    · rw [decide_eq_false (hne i hi0 c)]
      walk_at "rd"
      refine ⟨_, fun σ'' H'' z => z, ?_⟩
      have nlen : vs.length = i := by
        rw [hvs.length, List.length_map, List.length_range]
      refine ⟨.inl ⟨rfl, _, SqL.of hL⟩, _, hL, small_size_lt (by omega), ?_⟩
      have paL : ∀ v' p', Pa K H' v' p' → Pa K (upd H' l (.lst (vs ++ [r]))) v' p' := fun v' p' z => z.upd hL (by intro xs q; cases q)
      have hs2 : Same H (upd H' l (.lst (vs ++ [r]))) := fun x o e => by
        rw [upd_ne (ne_of_none e nl)]
        exact hs _ _ e
      refine ⟨_, _, rfl, b, _, hp.same hs2, hb, paL _ _ hr, fun t H2 s2 ht => ?_⟩
      obtain ⟨ta, z, rfl, h1, h2⟩ := ht
      refine ⟨_, rfl, _, _, h1, ?_⟩
      refine ⟨k - (i + 1), by omega, (hW _ _ _).mpr ⟨i + 1, z, _, vs ++ [r], rfl, by omega, c, rfl, hs2.trans s2, s2 _ _ upd_same, ?_, h2⟩⟩
      rw [List.range_succ, List.map_append]
      refine PaAll.snoc (Pa.same s2 (paL _ _ hr)) (PaAll.same s2 ?_)
      exact L2.Paired.mapP hvs paL
    · subst c
      rw [e, decide_eq_true rfl]
      walk_at "rd"
      exact q _ _ ⟨hs, nl, vs, hL, hvs⟩
abbrev s_round_of : Stmt := top 28
theorem sc_round_of : FnScope ["base", "pair", "seen", "here", "_"] ["base", "pair"] (defScope s_round_of) := ⟨rfl, rfl, rfl, by decide +kernel, rfl, by decide +kernel, by decide +kernel⟩
theorem ok_round_of {f : Addr} {fd : FuncData} (F : Fun K "round_of" "round_of" s_round_of f fd) (T : Txt K mg) (h_step : Has P w K mg base "step" 5 ["base", "pair"] (sp_step K)) (h_round_from : Has P w K mg base "round_from" 6 ["base", "start"] (sp_round_from K)) : FnOk P w K mg base CX0 7 f fd ["base", "pair"] (sp_round_of K) := by
  refine F.ok sc_round_of (fun vs H Q E h => ?_) (fun cdv A outer s H vs Q E hr h => ?_)
  · obtain ⟨_, _, rfl, _⟩ := h; rfl
  · obtain ⟨u, v, rfl, b, p, hp, hb, hv, m, n, hc, hn, q⟩ := h
    refine ⟨_, (pss_cons (ps_set (i := 2) sc_round_of.nd rfl (Or.inl rfl) (pe_callTy0 cr_set0T (by rfl) T.z_set (by decide +kernel)))
      (pss_cons (ps_set (i := 3) sc_round_of.nd rfl (Or.inl rfl) (pv 1))
      (pss_cons (ps_while PassesOwn.never (pt_cmpR (op_notInT (hu_of hr)) (pv 3) (pv 2) (by rfl)) (pss_cons (ps_expr (pe_saddT (hu_of hr) (pv 2) (pa_cons (pv 3) pa_nil)))
      (pss_one (ps_asg (pe_H h_step (hr.mono (by decide)) (by rfl) (pa_cons (pv 0) (pa_cons (pv 3) pa_nil))) (pg_2 (pg_tup rfl (pgs_cons (pg_name (i := 4) sc_round_of.nd rfl (Or.inl rfl)) (pgs_cons (pg_name (i := 3) sc_round_of.nd rfl (Or.inl rfl)) pgs_nil))))))))
      (pss_one (ps_ret (pe_H h_round_from (hr.mono (by decide)) (by rfl) (pa_cons (pv 0) (pa_cons (pv 3) pa_nil)))))))), ?_⟩
    walk_at "rd"
    refine ⟨rfl, fun a na H1 s1 k1 hS => ?_⟩
    obtain ⟨W, hW⟩ : ∃ W : Nat → L2.St → Hp → Prop, ∀ d σ' H', W d σ' H' ↔ ∃ i r f, σ' = [some u, some v, some (.ref a), some r, f] ∧ i ≤ n ∧ d = n - i ∧ Same H H' ∧ PSet P w K H' a (((List.range i).map (orb b p)).reverse) ∧ Pa K H' r (orb b p i) := ⟨_, fun _ _ _ => Iff.rfl⟩
    refine ⟨W, ⟨_, (hW _ _ _).mpr ⟨0, v, none, rfl, Nat.zero_le n, rfl, s1, hS, hv.same s1⟩⟩, fun d σ' H' w' => ?_⟩
    obtain ⟨i, r, f, rfl, hi, rfl, hs, hS, hr⟩ := (hW _ _ _).mp w'
    walk_at "rd"
    refine ⟨_, _, _, hr, rfl, hS, ?_⟩
    have mem : ∀ z : P2, z ∈ ((List.range i).map (orb b p)).reverse ↔ ∃ j, j < i ∧ orb b p j = z := fun z => by
      rw [List.mem_reverse, List.mem_map]
      constructor
      · rintro ⟨j, hj, e⟩
        exact ⟨j, List.mem_range.mp hj, e⟩
      · rintro ⟨j, hj, e⟩
        exact ⟨j, List.mem_range.mpr hj, e⟩
    walk_at "rd"
    rcases Nat.lt_or_eq_of_le hi with c | c
    · have fresh : orb b p i ∉ ((List.range i).map (orb b p)).reverse := fun z => by
        obtain ⟨j, hj, e⟩ := (mem _).mp z
        exact hc.inj j i hj c e
      rw [decide_eq_false fresh]
      walk_at "rd"
      refine ⟨_, fun σ'' H'' z => z, ?_⟩
      refine ⟨_, rfl, ⟨a, _, rfl, hS⟩, _, rfl, a, _, orb b p i, _, rfl, rfl, hr, hS, fresh, ?_, fun H2 e2 hS2 => ?_⟩
      · rw [List.length_reverse, List.length_map, List.length_range]
        omega
      have hs2 : Same H H2 := fun x o e => by
        rw [e2 x (ne_of_none e na)]
        exact hs _ _ e
      have tup2 : ∀ v' p', Pa K H' v' p' → Pa K H2 v' p' := fun v' p' z => by
        obtain ⟨L, ha, _⟩ := hS
        obtain ⟨a', e', z⟩ := z
        exact ⟨a', e', by rw [e2 _ (ne_of z ha (by intro q; cases q))]; exact z⟩
      refine ⟨_, _, rfl, b, _, hp.same hs2, hb, tup2 _ _ hr, fun t H3 s3 ht => ?_⟩
      obtain ⟨ta, z, rfl, h1, h2⟩ := ht
      refine ⟨_, rfl, _, _, h1, ?_⟩
      walk_at "rd"
      refine ⟨n - (i + 1), by omega, (hW _ _ _).mpr ⟨i + 1, z, _, rfl, c, rfl, hs2.trans s3, ?_, h2⟩⟩
      obtain ⟨L, ha, ht, hl, hm⟩ := hS2
      refine ⟨L, s3 _ _ ha, fun y hy => SqT.same s3 (ht y hy), ?_, fun y => ?_⟩
      · rw [hl, List.range_succ, List.map_append, List.reverse_append]
        rfl
      · rw [hm, List.range_succ, List.map_append, List.reverse_append]
        rfl
    · subst c
      have inn : orb b p i ∈ ((List.range i).map (orb b p)).reverse := (mem _).mpr ⟨m, hc.lt, hc.eq.symm⟩
      rw [decide_eq_true inn]
      walk_at "rd"
      have hlt := hc.lt
      have per : ∀ t, orb b (orb b p i) t = orb b p (m + t) := fun t => by
        rw [orb_add, hc.period]
      refine ⟨_, _, rfl, b, _, hp.same hs, hb, hr, i - m, by omega, by omega, ?_, fun j j0 j1 => ?_, fun a2 H2 z => ?_⟩
      · rw [per, show m + (i - m) = i by omega]
      · rw [per, hc.eq]
        exact fun e => hc.inj m (m + j) (by omega) (by omega) e.symm
      · obtain ⟨s2, na2, vs, hL, hvs⟩ := z
        refine q _ _ ⟨hs.trans s2, hs.free na2, vs, hL, ?_⟩
        have e : (List.range (i - m)).map (orb b (orb b p i)) = orbs b p m i := by
          unfold orbs
          exact List.map_congr_left fun t _ => per t
        rw [← e]
        exact hvs
abbrev s_tells_all : Stmt := top 30
theorem sc_tells_all : FnScope ["base"] ["base"] (defScope s_tells_all) := ⟨rfl, rfl, rfl, by decide +kernel, rfl, by decide +kernel, by decide +kernel⟩
theorem ok_tells_all {f : Addr} {fd : FuncData} (F : Fun K "tells_all" "tells_all" s_tells_all f fd) (T : Txt K mg) (h_need_base : Has P w K mg base "need_base" 4 ["thing"] (sp_need_base K)) : FnOk P w K mg base CX0 5 f fd ["base"] (sp_tells_all K) := by
  refine F.ok sc_tells_all (fun vs H Q E h => ?_) (fun cdv A outer s H vs Q E hr h => ?_)
  · obtain ⟨_, rfl, _⟩ := h; rfl
  · obtain ⟨u, rfl, b, ⟨a, rfl, h⟩, hb, q⟩ := h
    refine ⟨_, (pss_cons (ps_expr (pe_H h_need_base (hr.mono (by decide)) (by rfl) (pa_cons (pv 0) pa_nil)))
      (pss_one (ps_ret (pe_and (pe_cmpR op_lt (pe_ix ix_tup (pv 0) pe_int (fun _ _ => rfl)) pe_int (nomark _)) (pe_one (pe_cmpR op_eq (pe_callB call_abs (by rfl) T.z_abs (by decide +kernel) (pa_cons (pe_ix ix_tup (pv 0) pe_int (fun _ _ => rfl)) pa_nil)) pe_int (nomark _))))))), ?_⟩
    walk_at "rd"
    refine ⟨_, rfl, b, ⟨a, rfl, h⟩, hb, _, SqT.of h, _, rfl, _, rfl, ?_⟩
    by_cases c : b.1 < 0
    · rw [if_pos (decide_eq_true c)]
      refine ⟨_, SqT.of h, _, rfl, _, rfl, ?_⟩
      have e : decide ((if b.2 < 0 then -b.2 else b.2) = 1) = tellsB b := by
        unfold tellsB
        rw [decide_eq_true c, Bool.true_and]
        have : ((if b.2 < 0 then -b.2 else b.2) = 1) ↔ b.2.natAbs = 1 := by
          split <;> omega
        simp only [this]
      rw [e]
      exact q
    · rw [if_neg (by rw [decide_eq_true_eq]; exact c)]
      have e : tellsB b = false := by
        unfold tellsB
        rw [decide_eq_false c, Bool.false_and]
      rw [← e]
      exact q
end
end Pb
set_option Elab.async false
set_option linter.all false
set_option maxRecDepth 100000
set_option maxHeartbeats 4000000
namespace Pb
open PySem PySem.Spec PyProof.Rows L2
local macro_rules | `(tactic| walk_at "rd") => `(tactic| try simp only [L2.tSeq, L2.tRet, L2.tDrop, L2.tIfS, L2.tAsg, L2.gName, gT2, L2.tPar, L2.tTest, L2.tOp, L2.tUn, L2.tCB, L2.tCons, L2.tNil, L2.tNext, L2.tVar, L2.tC, tH, L2.tAnd, L2.tOr, L2.tNot, L2.tAndV, L2.tOrV, L2.tNotV, L2.tIf, L2.tB, L2.rI, L2.rI0, L2.rU, L2.rEq, L2.rNe, rIsN, L2.rGcd, L2.scal, L2.rIxT, L2.rIxL, L2.tTup, L2.tLst, L2.tChain, L2.tBM, L2.rAppend, L2.tSl, L2.tPart, L2.tNoPart, L2.rSlL, L2.rCat, tHmC, tHi, L2.tFld, L2.sFld, L2.tRevL, L2.rPopAt, L2.sDPut, L2.tDGet, L2.tDNotIn, L2.tDNewT, L2.start, L2.wipe, L2.cxOf, L2.Cx.nox, List.length_cons, List.length_nil, List.map_cons, List.map_nil, List.cons_append, List.nil_append, List.append_nil, List.getElem?_cons_zero, List.getElem?_cons_succ, List.set_cons_zero, List.set_cons_succ, List.replicate_succ, List.replicate_zero, Nat.reduceAdd, Nat.reduceSub, Nat.zero_add, Nat.add_zero, Nat.sub_self, Option.some.injEq, exists_eq_left', exists_eq_left, exists_and_left, List.cons.injEq, true_and, and_true, and_assoc, L2.V.bl.injEq, L2.V.int.injEq, L2.V.ref.injEq, if_true, if_false, Bool.false_eq_true, decide_true, decide_false, Bool.not_true, Bool.not_false, reduceCtorEq])

/-- an answer's making: its list copied -/
def sp_mkl (K : PySem.W.Frag) (C : Addr) (f : Str) : Sp := fun vs H Q _ => ∃ s v, vs = [s, v] ∧ ∃ x dx l xs, s = .ref x ∧ v = .ref l ∧ H x = some (.ins C dx []) ∧ SqL K H l xs ∧
  ∀ l' H', H l' = none → (∀ b o, H b = some o → b ≠ x → H' b = some o) → H' x = some (.ins C dx [(f, .ref l')]) → H' l' = some (.lst xs) → Q .non H'
def sp_mkv (C : Addr) (f : Str) : Sp := fun vs H Q _ => ∃ s v, vs = [s, v] ∧ ∃ x dx, s = .ref x ∧ H x = some (.ins C dx []) ∧ ∀ H', (∀ b o, H b = some o → b ≠ x → H' b = some o) → H' x = some (.ins C dx [(f, v)]) → Q .non H'
/-- an answer that holds a list -/
def AnsL (K : PySem.W.Frag) (C : Addr) (f : Str) (H : Hp) (x : Addr) (xs : List V) : Prop := ∃ dx l, H x = some (.ins C dx [(f, .ref l)]) ∧ H l = some (.lst xs)
theorem AnsL.same {K : PySem.W.Frag} {C : Addr} {f : Str} {H H' : Hp} {x : Addr} {xs : List V} (e : Same H H') (h : AnsL K C f H x xs) : AnsL K C f H' x xs := by
  obtain ⟨dx, l, h1, h2⟩ := h
  exact ⟨dx, l, e _ _ h1, e _ _ h2⟩
/-- an answer that holds a list, both new -/
def AnsN (K : PySem.W.Frag) (C : Addr) (f : Str) (H H' : Hp) (x : Addr) (xs : List V) : Prop := H x = none ∧ ∃ dx l, H l = none ∧ H' x = some (.ins C dx [(f, .ref l)]) ∧ H' l = some (.lst xs)
theorem AnsN.l {K : PySem.W.Frag} {C : Addr} {f : Str} {H H' : Hp} {x : Addr} {xs : List V} (h : AnsN K C f H H' x xs) : AnsL K C f H' x xs := by
  obtain ⟨_, dx, l, _, h1, h2⟩ := h
  exact ⟨dx, l, h1, h2⟩
def sp_Told_shows (K : PySem.W.Frag) (C : Addr) : Sp := fun vs H Q _ => ∃ s u v, vs = [s, u, v] ∧ ∃ (x : Addr) (ns : List Int) (b p : P2), s = .ref x ∧ AnsL K C "row" H x (ns.map V.int) ∧ ns.length ≤ 1000000 ∧ Pa K H u b ∧ isB b = true ∧ Pa K H v p ∧
  ∀ H', Same H H' → Q (.bl (rowB b ns && decide (rd b ns = p))) H'
def sp_Round_shows (K : PySem.W.Frag) (C : Addr) : Sp := fun vs H Q _ => ∃ s u v, vs = [s, u, v] ∧ ∃ (x : Addr) (ps : List P2) (b p : P2), s = .ref x ∧ (∃ xs, AnsL K C "pairs" H x xs ∧ PaAll K H xs ps) ∧ ps.length ≤ 100000 ∧ Pa K H u b ∧ isB b = true ∧ Pa K H v p ∧
  ∃ m n, Cyc b p m n ∧ n ≤ 4900 ∧ ∀ H', Same H H' → Q (.bl (!decide ((0, 0) ∈ orbs b p m n) && sameB ps (orbs b p m n))) H'
def sp_All_shows (K : PySem.W.Frag) (C : Addr) : Sp := fun vs H Q _ => ∃ s u, vs = [s, u] ∧ ∃ b : P2, Pa K H u b ∧ isB b = true ∧ Q (.bl (tellsB b)) H
def sp_Lost_shows (K : PySem.W.Frag) (C : Addr) : Sp := fun vs H Q _ => ∃ s u, vs = [s, u] ∧ ∃ (x dx : Addr) (v : V) (b p : P2), s = .ref x ∧ H x = some (.ins C dx [("pair", v)]) ∧ Pa K H v p ∧ Pa K H u b ∧ isB b = true ∧
  ∃ m n, Cyc b p m n ∧ n ≤ 4900 ∧ ∀ H', Same H H' → Q (.bl (!decide (p = (0, 0)) && decide (p ∈ orbs b p m n))) H'
def sp_read (K : PySem.W.Frag) : Sp := fun vs H Q _ => ∃ u v, vs = [u, v] ∧ ∃ (b : P2) (a : Addr) (ns : List Int), Pa K H u b ∧ isB b = true ∧ v = .ref a ∧ SqL K H a (ns.map V.int) ∧ ns.length ≤ 1000000 ∧ rowOk b ns ∧ ∀ x H', Same H H' → Pa K H' x (rd b ns) → Q x H'
def sp_told (K : PySem.W.Frag) (CT CR : Addr) : Sp := fun vs H Q _ => ∃ u v, vs = [u, v] ∧ ∃ b p : P2, Pa K H u b ∧ isB b = true ∧ Pa K H v p ∧ ∃ m n, Cyc b p m n ∧ n ≤ 4900 ∧
  (∀ k, Ends0 b p k → ∀ x H', Same H H' → AnsN K CT "row" H H' x ((figs b p k).map V.int) → Q (.ref x) H') ∧
  ((¬ ∃ k, Ends0 b p k) → ∀ x xs H', Same H H' → AnsN K CR "pairs" H H' x xs → PaAll K H' xs (orbs b p m n) → Q (.ref x) H')

section
variable {P : Program} {w : World} {K : PySem.W.Frag} {mg : Str → Option Value} {base : Heap}
abbrev s_Told___init__ : Stmt := inClass (top 33) 0
theorem sc_Told___init__ : FnScope ["self", "row"] ["self", "row"] (defScope s_Told___init__) := ⟨rfl, rfl, rfl, by decide +kernel, rfl, by decide +kernel, by decide +kernel⟩
theorem ok_Told___init__ {f : Addr} {fd : FuncData} (F : Fun K "__init__" "Told.__init__" s_Told___init__ f fd) (T : Txt K mg) {CT : Addr} (cCT : CF K mg "Told" CT) (nCT : NoAttr K CT "row") : FnOk P w K mg base CX0 1 f fd ["self", "row"] (sp_mkl K CT "row") := by
  refine F.ok sc_Told___init__ (fun vs H Q E h => ?_) (fun cdv A outer s H vs Q E hr h => ?_)
  · obtain ⟨_, _, rfl, _⟩ := h; rfl
  · obtain ⟨s, v, rfl, x, dx, l, xs, rfl, rfl, hx, hl, k⟩ := h
    refine ⟨_, (pss_one (ps_fld (pv 0) (pe_callTy call_list_of (by rfl) T.z_list (by decide +kernel) (pa_cons (pv 1) pa_nil)) rfl)), ?_⟩
    walk_at "rd"
    refine ⟨_, .inl hl, fun l' nl => ?_⟩
    have nx : x ≠ l' := ne_of_none hx nl
    refine ⟨_, dx, [], (by rw [upd_ne nx]; exact hx), cCT.cl, nCT, (by show 0 < 1000; decide), ?_⟩
    refine k l' _ nl (fun b o e hb => ?_) upd_same ?_
    · rw [upd_ne hb, upd_ne (ne_of_none e nl)]
      exact e
    · rw [upd_ne nx.symm, upd_same]
abbrev s_Round___init__ : Stmt := inClass (top 34) 0
theorem sc_Round___init__ : FnScope ["self", "pairs"] ["self", "pairs"] (defScope s_Round___init__) := ⟨rfl, rfl, rfl, by decide +kernel, rfl, by decide +kernel, by decide +kernel⟩
theorem ok_Round___init__ {f : Addr} {fd : FuncData} (F : Fun K "__init__" "Round.__init__" s_Round___init__ f fd) (T : Txt K mg) {CR : Addr} (cCR : CF K mg "Round" CR) (nCR : NoAttr K CR "pairs") : FnOk P w K mg base CX0 1 f fd ["self", "pairs"] (sp_mkl K CR "pairs") := by
  refine F.ok sc_Round___init__ (fun vs H Q E h => ?_) (fun cdv A outer s H vs Q E hr h => ?_)
  · obtain ⟨_, _, rfl, _⟩ := h; rfl
  · obtain ⟨s, v, rfl, x, dx, l, xs, rfl, rfl, hx, hl, k⟩ := h
    refine ⟨_, (pss_one (ps_fld (pv 0) (pe_callTy call_list_of (by rfl) T.z_list (by decide +kernel) (pa_cons (pv 1) pa_nil)) rfl)), ?_⟩
    walk_at "rd"
    refine ⟨_, .inl hl, fun l' nl => ?_⟩
    have nx : x ≠ l' := ne_of_none hx nl
    refine ⟨_, dx, [], (by rw [upd_ne nx]; exact hx), cCR.cl, nCR, (by show 0 < 1000; decide), ?_⟩
    refine k l' _ nl (fun b o e hb => ?_) upd_same ?_
    · rw [upd_ne hb, upd_ne (ne_of_none e nl)]
      exact e
    · rw [upd_ne nx.symm, upd_same]
abbrev s_read : Stmt := top 38
theorem sc_read : FnScope ["base", "row"] ["base", "row"] (defScope s_read) := ⟨rfl, rfl, rfl, by decide +kernel, rfl, by decide +kernel, by decide +kernel⟩
theorem ok_read {f : Addr} {fd : FuncData} (F : Fun K "read" "read" s_read f fd) (T : Txt K mg) (h_need_base : Has P w K mg base "need_base" 4 ["thing"] (sp_need_base K)) (h_is_row : Has P w K mg base "is_row" 6 ["base", "thing"] (sp_is_row K)) (h_pair_of : Has P w K mg base "pair_of" 5 ["base", "row"] (sp_pair_of K)) : FnOk P w K mg base CX0 7 f fd ["base", "row"] (sp_read K) := by
  refine F.ok sc_read (fun vs H Q E h => ?_) (fun cdv A outer s H vs Q E hr h => ?_)
  · obtain ⟨_, _, rfl, _⟩ := h; rfl
  · obtain ⟨u, v, rfl, b, a, ns, hu, hb, rfl, hl, hn, hr2, k⟩ := h
    refine ⟨_, (pss_cons (ps_expr (pe_H h_need_base (hr.mono (by decide)) (by rfl) (pa_cons (pv 0) pa_nil)))
      (pss_cons (ps_if (pt_not (pt_val (pe_H h_is_row (hr.mono (by decide)) (by rfl) (pa_cons (pv 0) (pa_cons (pv 1) pa_nil))))) (pss_one ps_never) pss_nil)
      (pss_one (ps_ret (pe_H h_pair_of (hr.mono (by decide)) (by rfl) (pa_cons (pv 0) (pa_cons (pv 1) pa_nil))))))), ?_⟩
    walk_at "rd"
    refine ⟨_, rfl, b, hu, hb, _, _, rfl, b, hu, hb, .inr ⟨a, _, _, rfl, hl, by rw [List.length_map]; exact hn, figs_ints ns, .inr ⟨?_, ns, rfl, fun H1 s1 => ⟨_, rfl, ?_⟩⟩⟩⟩
    · rw [List.all_map, List.all_eq_true]
      intro i hi
      obtain ⟨h1, h2⟩ := hr2.1 i hi
      show (decide (0 ≤ i) && decide (i < nm b)) = true
      rw [decide_eq_true h1, decide_eq_true h2]
      rfl
    · rw [rowB_true hr2]
      walk_at "rd"
      exact ⟨_, _, rfl, b, hu.same s1, hb, a, ns, rfl, s1.seq hl, fun x H2 s2 hx => k _ _ (s1.trans s2) hx⟩
abbrev s_told : Stmt := top 39
theorem sc_told : FnScope ["base", "pair", "found"] ["base", "pair"] (defScope s_told) := ⟨rfl, rfl, rfl, by decide +kernel, rfl, by decide +kernel, by decide +kernel⟩
theorem ok_told {f : Addr} {fd : FuncData} (F : Fun K "told" "told" s_told f fd) (T : Txt K mg) (h_need_base : Has P w K mg base "need_base" 4 ["thing"] (sp_need_base K)) (h_need_pair : Has P w K mg base "need_pair" 3 ["thing"] (sp_need_pair K)) (h_round_of : Has P w K mg base "round_of" 7 ["base", "pair"] (sp_round_of K)) (h_row_of : Has P w K mg base "row_of" 6 ["base", "pair"] (sp_row_of K)) {CT CR : Addr} (h_Told : HasI P w K mg base "Told" CT 1 ["self", "row"] (sp_mkl K CT "row")) (h_Round : HasI P w K mg base "Round" CR 1 ["self", "pairs"] (sp_mkl K CR "pairs")) : FnOk P w K mg base CX0 8 f fd ["base", "pair"] (sp_told K CT CR) := by
  refine F.ok sc_told (fun vs H Q E h => ?_) (fun cdv A outer s H vs Q E hr h => ?_)
  · obtain ⟨_, _, rfl, _⟩ := h; rfl
  · obtain ⟨u, v, rfl, b, p, hu, hb, hv, m, n, hc, hn, k1, k2⟩ := h
    obtain ⟨oa, g_ORIGIN, hO⟩ := T.g_ORIGIN
    have hu65 : (A.deeper (envOfC "told" (defScope s_told) s.heap.objs.size f cdv)).units + 65 < cLine := by
      have := hr.un
      omega
    refine ⟨_, (pss_cons (ps_expr (pe_H h_need_base (hr.mono (by decide)) (by rfl) (pa_cons (pv 0) pa_nil)))
      (pss_cons (ps_expr (pe_H h_need_pair (hr.mono (by decide)) (by rfl) (pa_cons (pv 1) pa_nil)))
      (pss_cons (ps_set (i := 2) sc_told.nd rfl (Or.inl rfl) (pe_H h_round_of (hr.mono (by decide)) (by rfl) (pa_cons (pv 0) (pa_cons (pv 1) pa_nil))))
      (pss_cons (ps_if (pt_cmpR (op_inD hu65) (pe_glob (by rfl) g_ORIGIN (show RelV (.ref oa) _ from rfl)) (pv 2) (by rfl)) (pss_one (ps_ret (pe_Hi h_Told (hr.mono (by decide)) (by rfl) (pa_cons (pe_H h_row_of (hr.mono (by decide)) (by rfl) (pa_cons (pv 0) (pa_cons (pv 1) pa_nil))) pa_nil)))) pss_nil)
      (pss_one (ps_ret (pe_Hi h_Round (hr.mono (by decide)) (by rfl) (pa_cons (pv 2) pa_nil)))))))), ?_⟩
    walk_at "rd"
    refine ⟨_, rfl, b, hu, hb, _, rfl, p, hv, ?_⟩
    refine ⟨_, _, rfl, b, p, hu, hb, hv, m, n, hc, hn, fun a H1 z => ?_⟩
    obtain ⟨s1, na, ys, hL, hys⟩ := z
    have g := good hb
    have hod : Dp K H1 (.ref oa) (pD (0, 0)) := pD_dp (hO H1)
    refine ⟨_, _, hod, PaL.dp ⟨ys, SqL.of hL, hys⟩, pD_shaped _, pDs_shaped _, ?_⟩
    rw [pDs_any]
    refine ⟨_, rfl, ?_⟩
    by_cases cz : ((0, 0) : P2) ∈ orbs b p m n
    · rw [decide_eq_true cz, if_pos rfl]
      obtain ⟨t, ht⟩ := (hc.zero_iff g).mp cz
      obtain ⟨e1, e2⟩ := hc.uniq (ht.cyc g)
      refine ⟨_, _, rfl, b, p, hu.same s1, hb, hv.same s1, t, ht, by omega, fun r H2 z => ?_⟩
      obtain ⟨s2, nr, hR⟩ := z
      intro x dx nx ndx nex
      have nrx : r ≠ x := ne_of_none hR nx
      have nrd : r ≠ dx := ne_of_none hR ndx
      refine ⟨_, _, rfl, x, dx, r, _, rfl, rfl, upd_same, SqL.of (by rw [upd_ne nrx, upd_ne nrd]; exact hR), fun l' H3 nl keep hx hl' => ⟨rfl, ?_⟩⟩
      have s12 := s1.trans s2
      refine k1 t ht x H3 (fun y o e => ?_) ⟨s12.free nx, dx, l', s12.free (Same.free (fun y o e => by rw [upd_ne (ne_of_none e nx), upd_ne (ne_of_none e ndx)]; exact e) nl), hx, hl'⟩
      have e2 := s12 _ _ e
      exact keep y o (by rw [upd_ne (ne_of_none e2 nx), upd_ne (ne_of_none e2 ndx)]; exact e2) (ne_of_none e2 nx)
    · rw [decide_eq_false cz, if_neg Bool.false_ne_true]
      intro x dx nx ndx nex
      have nax : a ≠ x := ne_of_none hL nx
      have nad : a ≠ dx := ne_of_none hL ndx
      refine ⟨_, _, rfl, x, dx, a, _, rfl, rfl, upd_same, SqL.of (by rw [upd_ne nax, upd_ne nad]; exact hL), fun l' H3 nl keep hx hl' => ⟨rfl, ?_⟩⟩
      have s3 : Same H1 H3 := fun y o e => keep y o (by rw [upd_ne (ne_of_none e nx), upd_ne (ne_of_none e ndx)]; exact e) (ne_of_none e nx)
      exact k2 (fun e => cz ((hc.zero_iff g).mpr e)) x ys H3 (s1.trans s3) ⟨s1.free nx, dx, l', s1.free (Same.free (fun y o e => by rw [upd_ne (ne_of_none e nx), upd_ne (ne_of_none e ndx)]; exact e) nl), hx, hl'⟩ (hys.same s3)
end
end Pb
set_option Elab.async false
set_option linter.all false
set_option maxRecDepth 100000
set_option maxHeartbeats 4000000
namespace Pb
open PySem PySem.Spec PyProof.Rows L2
local macro_rules | `(tactic| walk_at "rd") => `(tactic| try simp only [L2.tSeq, L2.tRet, L2.tDrop, L2.tIfS, L2.tAsg, L2.gName, gT2, L2.tPar, L2.tTest, L2.tOp, L2.tUn, L2.tCB, L2.tCons, L2.tNil, L2.tNext, L2.tVar, L2.tC, tH, L2.tAnd, L2.tOr, L2.tNot, L2.tAndV, L2.tOrV, L2.tNotV, L2.tIf, L2.tB, L2.rI, L2.rI0, L2.rU, L2.rEq, L2.rNe, rIsN, L2.rGcd, L2.scal, L2.rIxT, L2.rIxL, L2.tTup, L2.tLst, L2.tChain, L2.tBM, L2.rAppend, L2.tSl, L2.tPart, L2.tNoPart, L2.rSlL, L2.rCat, tHmC, tHi, L2.tFld, L2.sFld, L2.tRevL, L2.rPopAt, L2.sDPut, L2.tDGet, L2.tDNotIn, L2.tDNewT, L2.start, L2.wipe, L2.cxOf, L2.Cx.nox, List.length_cons, List.length_nil, List.map_cons, List.map_nil, List.cons_append, List.nil_append, List.append_nil, List.getElem?_cons_zero, List.getElem?_cons_succ, List.set_cons_zero, List.set_cons_succ, List.replicate_succ, List.replicate_zero, Nat.reduceAdd, Nat.reduceSub, Nat.zero_add, Nat.add_zero, Nat.sub_self, Option.some.injEq, exists_eq_left', exists_eq_left, exists_and_left, List.cons.injEq, true_and, and_true, and_assoc, L2.V.bl.injEq, L2.V.int.injEq, L2.V.ref.injEq, if_true, if_false, Bool.false_eq_true, decide_true, decide_false, Bool.not_true, Bool.not_false, reduceCtorEq])

theorem bits_add {i c : Int} {n : Nat} (h : Builtin.Int.intBits i ≤ n) (hc : c.natAbs < 2 ^ 40) (hn : 40 ≤ n) : Builtin.Int.intBits (i + c) ≤ n + 1 := by
  refine bits_lt ?_
  have h1 := lt_bits h
  have h2 : 2 ^ 40 ≤ 2 ^ n := Nat.pow_le_pow_right (by decide) hn
  have h3 : 2 ^ (n + 1) = 2 ^ n + 2 ^ n := by
    rw [Nat.pow_succ]
    omega
  have h4 : c.natAbs < 2 ^ n := Nat.lt_of_lt_of_le hc h2
  rw [h3]
  generalize 2 ^ n = N at *
  clear h2 h3 hc h
  omega
def sp__law_cell_at (K : PySem.W.Frag) : Sp := fun vs H Q _ => ∃ u v, vs = [u, v] ∧ ∃ (a : Addr) (ns : List Int) (k : Nat), u = .ref a ∧ v = .int k ∧ SqL K H a (ns.map V.int) ∧ Q (.int (ns.getD k 0)) H
def sp__law_draw : Sp := fun vs H Q _ => ∃ u v z, vs = [u, v, z] ∧ ∃ (c k m : Int), u = .int c ∧ v = .int k ∧ z = .int m ∧ 0 ≤ k ∧ k ≤ 1000000 ∧ 0 < m ∧ ∀ d H', Same H H' → 0 ≤ d → d < m → Q (.int d) H'
theorem atI_ints {ps : List Int} {i : Int} (h0 : 0 ≤ i) (h1 : i < ps.length) : ∃ z, z ∈ ps ∧ atI (ps.map V.int) i = some (.int z) := by
  have hl : i.toNat < ps.length := by omega
  refine ⟨ps[i.toNat], List.getElem_mem hl, ?_⟩
  have e : i = ((i.toNat : Nat) : Int) := by omega
  have r : atI (ps.map V.int) ((i.toNat : Nat) : Int) = some (.int ps[i.toNat]) := atI_nat (by rw [List.getElem?_map, List.getElem?_eq_getElem hl]; rfl)
  rw [← e] at r
  exact r
def sp__law_value : Sp := fun vs H Q _ => ∃ u v z, vs = [u, v, z] ∧ ∃ (c k m : Int), u = .int c ∧ v = .int k ∧ z = .int m ∧ 0 ≤ k ∧ k ≤ 1000 ∧ 0 < m ∧ m ≤ 10 ^ 40 ∧ Builtin.Int.intBits c ≤ 1048576 ∧ ∀ d H', Same H H' → 0 ≤ d → d < 10 ^ 40 → Q (.int d) H'
def sp__law_common : Sp := fun vs H Q _ => ∃ u v, vs = [u, v] ∧ ∃ (a b : Int), u = .int a ∧ v = .int b ∧ Q (.int (Nat.gcd a.natAbs b.natAbs)) H
def sp__law_base (K : PySem.W.Frag) : Sp := fun vs H Q _ => ∃ u v, vs = [u, v] ∧ ∃ (a : Addr) (ns : List Int) (k : Nat), u = .ref a ∧ v = .int k ∧ SqL K H a (ns.map V.int) ∧ k ≤ 900 ∧ ∀ x (b : P2) H', Same H H' → isB b = true → Pa K H' x b → Q x H'
def sp__law_pair (K : PySem.W.Frag) : Sp := fun vs H Q _ => ∃ u v, vs = [u, v] ∧ ∃ (a : Addr) (ns : List Int) (k : Nat), u = .ref a ∧ v = .int k ∧ SqL K H a (ns.map V.int) ∧ k ≤ 900 ∧ (∀ z ∈ ns, Builtin.Int.intBits z ≤ 1048576) ∧ ∀ x (p : P2) H', Same H H' → p.1.natAbs < 10 ^ 40 → p.2.natAbs < 10 ^ 40 → Pa K H' x p → Q x H'

section
variable {P : Program} {w : World} {K : PySem.W.Frag} {mg : Str → Option Value} {base : Heap}
abbrev s__law_cell_at : Stmt := top 45
theorem sc__law_cell_at : FnScope ["_law_script", "_law_k"] ["_law_script", "_law_k"] (defScope s__law_cell_at) := ⟨rfl, rfl, rfl, by decide +kernel, rfl, by decide +kernel, by decide +kernel⟩
theorem ok__law_cell_at {f : Addr} {fd : FuncData} (F : Fun K "_law_cell_at" "_law_cell_at" s__law_cell_at f fd) (T : Txt K mg) : FnOk P w K mg base CX0 1 f fd ["_law_script", "_law_k"] (sp__law_cell_at K) := by
  refine F.ok sc__law_cell_at (fun vs H Q E h => ?_) (fun cdv A outer s H vs Q E hr h => ?_)
  · obtain ⟨_, _, rfl, _⟩ := h; rfl
  · obtain ⟨u, v, rfl, a, ns, k, rfl, rfl, hl, q⟩ := h
    refine ⟨_, (pss_cons (ps_if (pt_cmpR op_lt (pv 1) (pe_callB call_len_seq (by rfl) T.z_len (by decide +kernel) (pa_cons (pv 0) pa_nil)) (nomark _)) (pss_one (ps_ret (pe_ix ix_list (pv 0) (pv 1) (fun _ _ => rfl)))) pss_nil)
      (pss_one (ps_ret pe_int))), ?_⟩
    walk_at "rd"
    refine ⟨_, .inl hl, ?_⟩
    rw [List.length_map]
    by_cases c : k < ns.length
    · rw [decide_eq_true (show (k : Int) < (ns.length : Int) by omega)]
      refine ifT rfl ⟨_, hl, _, atI_nat (j := k) ?_, q⟩
      rw [List.getElem?_map, List.getD_eq_getElem?_getD, List.getElem?_eq_getElem c]
      rfl
    · rw [decide_eq_false (show ¬ (k : Int) < (ns.length : Int) by omega)]
      refine ifF rfl ?_
      rw [List.getD_eq_getElem?_getD, List.getElem?_eq_none (by omega)] at q
      exact q
abbrev s__law_draw : Stmt := top 46
theorem sc__law_draw : FnScope ["_law_cell", "_law_k", "_law_many", "_law_primes"] ["_law_cell", "_law_k", "_law_many"] (defScope s__law_draw) := ⟨rfl, rfl, rfl, by decide +kernel, rfl, by decide +kernel, by decide +kernel⟩
theorem ok__law_draw {f : Addr} {fd : FuncData} (F : Fun K "_law_draw" "_law_draw" s__law_draw f fd) (T : Txt K mg) : FnOk P w K mg base CX0 1 f fd ["_law_cell", "_law_k", "_law_many"] sp__law_draw := by
  refine F.ok sc__law_draw (fun vs H Q E h => ?_) (fun cdv A outer s H vs Q E hr h => ?_)
  · obtain ⟨_, _, _, rfl, _⟩ := h; rfl
  · obtain ⟨u, v, z, rfl, c, k, m, rfl, rfl, rfl, k0, k1, m0, q⟩ := h
    refine ⟨_, (pss_cons (ps_set (i := 3) sc__law_draw.nd rfl (Or.inl rfl) (pe_tup (pa_cons pe_int (pa_cons pe_int (pa_cons pe_int (pa_cons pe_int (pa_cons pe_int (pa_cons pe_int (pa_cons pe_int (pa_cons pe_int (pa_cons pe_int (pa_cons pe_int (pa_cons pe_int (pa_cons pe_int (pa_cons pe_int (pa_cons pe_int (pa_cons pe_int (pa_cons pe_int pa_nil))))))))))))))))))
      (pss_one (ps_ret (pe_op op_mod (pe_op op_mod (pe_op op_add (pe_op op_mul (pv 0) pe_int) (pe_op op_mul (pv 1) pe_int)) (pe_ix ix_tup (pv 3) (pe_op op_mod (pv 1) pe_int) (fun _ _ => rfl))) (pv 2))))), ?_⟩
    walk_at "rd"
    refine ⟨small_size (by decide), fun p np => ⟨small_mul' (by decide), small_mul' (by decide), by decide, ?_⟩⟩
    obtain ⟨z, hz, e⟩ := atI_ints (ps := [1000003, 1000033, 1000037, 1000039, 1000081, 1000099, 1000117, 1000121, 1000133, 1000151, 1000159, 1000171, 1000183, 1000187, 1000193, 1000199]) (i := k % 16) (by omega) (by show k % 16 < 16; omega)
    have z0 : 0 < z := by
      have a : ∀ z ∈ ([1000003, 1000033, 1000037, 1000039, 1000081, 1000099, 1000117, 1000121, 1000133, 1000151, 1000159, 1000171, 1000183, 1000187, 1000193, 1000199] : List Int), 0 < z := by decide
      exact a z hz
    exact ⟨_, SqT.new, _, e, z, rfl, z0, m0, q _ _ (same_upd np) (Int.emod_nonneg _ (by omega)) (Int.emod_lt_of_pos _ m0)⟩
abbrev s__law_value : Stmt := top 47
theorem sc__law_value : FnScope ["_law_cell", "_law_k", "_law_limit"] ["_law_cell", "_law_k", "_law_limit"] (defScope s__law_value) := ⟨rfl, rfl, rfl, by decide +kernel, rfl, by decide +kernel, by decide +kernel⟩
theorem ok__law_value {f : Addr} {fd : FuncData} (F : Fun K "_law_value" "_law_value" s__law_value f fd) (T : Txt K mg) (h__law_draw : Has P w K mg base "_law_draw" 1 ["_law_cell", "_law_k", "_law_many"] sp__law_draw) : FnOk P w K mg base CX0 2 f fd ["_law_cell", "_law_k", "_law_limit"] sp__law_value := by
  refine F.ok sc__law_value (fun vs H Q E h => ?_) (fun cdv A outer s H vs Q E hr h => ?_)
  · obtain ⟨_, _, _, rfl, _⟩ := h; rfl
  · obtain ⟨u, v, z, rfl, c, k, m, rfl, rfl, rfl, k0, k1, m0, m1, hc, q⟩ := h
    refine ⟨_, (pss_cons (ps_if (pt_cmpR op_ge (pv 0) (pe_op op_pow pe_int pe_int) (nomark _)) (pss_one (ps_ret (pe_op op_mod (pe_op op_sub (pv 0) (pe_op op_pow pe_int pe_int)) (pe_op op_pow pe_int pe_int)))) pss_nil)
      (pss_one (ps_ret (pe_H h__law_draw (hr.mono (by decide)) (by rfl) (pa_cons (pe_op op_mulB (pe_op op_add (pv 0) (pe_op op_mul pe_int (pv 1))) (pe_op op_add (pe_op op_add (pv 0) (pe_op op_mul pe_int (pv 1))) pe_int)) (pa_cons (pe_op op_add (pe_op op_mod (pv 1) pe_int) pe_int) (pa_cons (pv 2) pa_nil))))))), ?_⟩
    walk_at "rd"
    have p18 : (10 : Int) ^ Int.toNat 18 = 1000000000000000000 := by decide
    have p40 : (10 : Int) ^ Int.toNat 40 = 10000000000000000000000000000000000000000 := by decide
    have p40' : (10 : Int) ^ 40 = 10000000000000000000000000000000000000000 := by decide
    rw [p40'] at m1 q
    rw [p18, p40]
    have pw : CPow 10 18 := ⟨by decide, by decide, by decide⟩
    refine ⟨pw, ?_⟩
    by_cases d : 1000000000000000000 ≤ c
    · rw [decide_eq_true d]
      exact ifT rfl ⟨pw, ⟨by decide, by decide, by decide⟩, by decide, q _ _ (Same.refl H) (Int.emod_nonneg _ (by decide)) (Int.emod_lt_of_pos _ (by decide))⟩
    · rw [decide_eq_false d]
      refine ifF rfl ⟨small_mul (by decide), small_mul (by decide), ?_, by decide, ?_⟩
      · unfold CMulB
        have b1 := bits_add (c := 977 * k) hc (by omega) (by decide)
        have b2 := bits_add (c := 31 * k + 5) hc (by omega) (by decide)
        rw [← Int.add_assoc] at b2
        omega
      · exact ⟨_, _, _, rfl, _, _, _, rfl, rfl, rfl, by omega, by omega, m0, fun d H' hs d0 d1 => q _ _ hs d0 (by omega)⟩
abbrev s__law_common : Stmt := top 48
theorem sc__law_common : FnScope ["_law_one", "_law_other"] ["_law_one", "_law_other"] (defScope s__law_common) := ⟨rfl, rfl, rfl, by decide +kernel, rfl, by decide +kernel, by decide +kernel⟩
theorem ok__law_common {f : Addr} {fd : FuncData} (F : Fun K "_law_common" "_law_common" s__law_common f fd) (T : Txt K mg) : FnOk P w K mg base CX0 1 f fd ["_law_one", "_law_other"] sp__law_common := by
  refine F.ok sc__law_common (fun vs H Q E h => ?_) (fun cdv A outer s H vs Q E hr h => ?_)
  · obtain ⟨_, _, rfl, _⟩ := h; rfl
  · obtain ⟨u, v, rfl, a, b, rfl, rfl, q⟩ := h
    refine ⟨_, (pss_cons (ps_par (i := 0) (j := 1) (by rfl) sc__law_common.nd rfl rfl (by decide) rfl rfl (pa_cons (pe_callB call_abs (by rfl) T.z_abs (by decide +kernel) (pa_cons (pv 0) pa_nil)) (pa_cons (pe_callB call_abs (by rfl) T.z_abs (by decide +kernel) (pa_cons (pv 1) pa_nil)) pa_nil)) (by rfl))
      (pss_cons (ps_while PassesOwn.never (pt_cmpR op_gt (pv 1) pe_int (nomark _)) (pss_one (ps_par (i := 0) (j := 1) (by rfl) sc__law_common.nd rfl rfl (by decide) rfl rfl (pa_cons (pv 1) (pa_cons (pe_op op_mod (pv 0) (pv 1)) pa_nil)) (by rfl))))
      (pss_one (ps_ret (pv 0))))), ?_⟩
    walk_at "rd"
    have ab : ∀ i : Int, (if i < 0 then -i else i) = (i.natAbs : Int) := fun i => by
      split <;> omega
    rw [ab, ab]
    obtain ⟨W, hW⟩ : ∃ W : Nat → L2.St → Hp → Prop, ∀ m σ' H', W m σ' H' ↔ ∃ (x y : Nat), σ' = [some (.int (x : Int)), some (.int (y : Int))] ∧ m = y ∧ H' = H ∧ Nat.gcd x y = Nat.gcd a.natAbs b.natAbs := ⟨_, fun _ _ _ => Iff.rfl⟩
    refine ⟨W, ⟨_, (hW _ _ _).mpr ⟨_, _, rfl, rfl, rfl, rfl⟩⟩, fun m σ' H' w => ?_⟩
    obtain ⟨x, y, rfl, rfl, rfl, e⟩ := (hW _ _ _).mp w
    walk_at "rd"
    by_cases c : 0 < m
    · rw [decide_eq_true (show (0 : Int) < (m : Int) by omega)]
      refine ifT rfl ?_
      refine ⟨_, fun σ'' H'' z => z, ?_⟩
      refine ⟨by omega, x % m, Nat.mod_lt _ c, (hW _ _ _).mpr ⟨m, x % m, ?_, rfl, rfl, ?_⟩⟩
      · rw [Int.natCast_emod]
      · rw [← e, Nat.gcd_comm m, ← Nat.gcd_rec, Nat.gcd_comm]
    · have e0 : m = 0 := by omega
      rw [e0, Nat.gcd_zero_right] at e
      rw [decide_eq_false (show ¬ (0 : Int) < (m : Int) by omega)]
      refine ifF rfl ?_
      rw [e]
      exact q
abbrev s__law_base : Stmt := top 49
theorem sc__law_base : FnScope ["_law_script", "_law_k", "_law_cell", "_law_kind", "_law_mine", "_law_theirs"] ["_law_script", "_law_k"] (defScope s__law_base) := ⟨rfl, rfl, rfl, by decide +kernel, rfl, by decide +kernel, by decide +kernel⟩
theorem ok__law_base {f : Addr} {fd : FuncData} (F : Fun K "_law_base" "_law_base" s__law_base f fd) (T : Txt K mg) (h__law_cell_at : Has P w K mg base "_law_cell_at" 1 ["_law_script", "_law_k"] (sp__law_cell_at K)) (h__law_draw : Has P w K mg base "_law_draw" 1 ["_law_cell", "_law_k", "_law_many"] sp__law_draw) (h__law_common : Has P w K mg base "_law_common" 1 ["_law_one", "_law_other"] sp__law_common) : FnOk P w K mg base CX0 2 f fd ["_law_script", "_law_k"] (sp__law_base K) := by
  refine F.ok sc__law_base (fun vs H Q E h => ?_) (fun cdv A outer s H vs Q E hr h => ?_)
  · obtain ⟨_, _, rfl, _⟩ := h; rfl
  · obtain ⟨u, v, rfl, a, ns, k, rfl, rfl, hl, hk, q⟩ := h
    refine ⟨_, (pss_cons (ps_set (i := 2) sc__law_base.nd rfl (Or.inl rfl) (pe_op op_mod (pe_H h__law_cell_at (hr.mono (by decide)) (by rfl) (pa_cons (pv 0) (pa_cons (pv 1) pa_nil))) (pe_op op_pow pe_int pe_int)))
      (pss_cons (ps_set (i := 3) sc__law_base.nd rfl (Or.inl rfl) (pe_H h__law_draw (hr.mono (by decide)) (by rfl) (pa_cons (pe_op op_add (pv 2) (pe_op op_mul pe_int (pv 1))) (pa_cons pe_int (pa_cons pe_int pa_nil)))))
      (pss_cons (ps_par (i := 4) (j := 5) (by rfl) sc__law_base.nd rfl rfl (by decide) rfl rfl (pa_cons (pe_op op_sub (pe_H h__law_draw (hr.mono (by decide)) (by rfl) (pa_cons (pv 2) (pa_cons (pe_op op_add (pe_op op_mod (pv 1) pe_int) pe_int) (pa_cons pe_int pa_nil)))) pe_int) (pa_cons (pe_op op_sub (pe_H h__law_draw (hr.mono (by decide)) (by rfl) (pa_cons (pv 2) (pa_cons (pe_op op_add (pe_op op_mod (pv 1) pe_int) pe_int) (pa_cons pe_int pa_nil)))) pe_int) pa_nil)) (by rfl))
      (pss_cons (ps_if (pt_cmpR op_lt (pv 3) pe_int (nomark _)) (pss_one (ps_par (i := 4) (j := 5) (by rfl) sc__law_base.nd rfl rfl (by decide) rfl rfl (pa_cons (pe_ix ix_tup (pe_tup (pa_cons (pe_op op_sub (pe_un un_neg pe_int) (pe_op op_mod (pe_callB call_abs (by rfl) T.z_abs (by decide +kernel) (pa_cons (pv 4) pa_nil)) pe_int)) (pa_cons (pe_op op_add pe_int (pe_op op_mod (pe_callB call_abs (by rfl) T.z_abs (by decide +kernel) (pa_cons (pv 4) pa_nil)) pe_int)) pa_nil))) (pv 3) (fun _ _ => rfl)) (pa_cons (pe_ix ix_tup (pe_tup (pa_cons pe_int (pa_cons (pe_un un_neg pe_int) pa_nil))) (pe_op op_mod (pe_callB call_abs (by rfl) T.z_abs (by decide +kernel) (pa_cons (pv 5) pa_nil)) pe_int) (fun _ _ => rfl)) pa_nil)) (by rfl))) pss_nil)
      (pss_cons (ps_set (i := 4) sc__law_base.nd rfl (Or.inl rfl) (pe_ifExp (pt_cmpR op_ne (pv 4) pe_int (nomark _)) (pv 4) pe_int))
      (pss_cons (ps_while PassesOwn.never (PW.pt (pw_or (pt_cmpR op_ne (pe_H h__law_common (hr.mono (by decide)) (by rfl) (pa_cons (pv 4) (pa_cons (pv 5) pa_nil))) pe_int (nomark _)) (pw_or1 (pt_cmpR op_lt (pe_op op_add (pe_op op_mul (pv 4) (pv 4)) (pe_op op_mul (pv 5) (pv 5))) pe_int (nomark _))))) (pss_one (ps_set (i := 5) sc__law_base.nd rfl (Or.inl rfl) (pe_ifExp (pt_cmpR op_lt (pv 5) pe_int (nomark _)) (pe_op op_add (pv 5) pe_int) (pe_un un_neg pe_int)))))
      (pss_one (ps_ret (pe_tup (pa_cons (pv 4) (pa_cons (pv 5) pa_nil))))))))))), ?_⟩
    walk_at "rd"
    have p18 : (10 : Int) ^ Int.toNat 18 = 1000000000000000000 := by decide
    rw [p18]
    have ab : ∀ i : Int, (if i < 0 then -i else i) = (i.natAbs : Int) := fun i => by
      split <;> omega
    simp only [ab]
    have loop : ∀ (v2 v3 : V) (mn t0 : Int) (H1 : Hp), Same H H1 → mn ≠ 0 → mn.natAbs ≤ 30 → t0.natAbs ≤ 30 → tWhile
        (tOr (tTest (tOp rNe (tH sp__law_common (tCons (tVar 4) (tCons (tVar 5) tNil))) (tC (V.int 1))))
          (tTest (tOp (rI0 fun i j => V.bl (decide (i < j))) (tOp (rI0 fun i j => V.int (i + j)) (tOp (rI CMul fun i j => V.int (i * j)) (tVar 4) (tVar 4)) (tOp (rI CMul fun i j => V.int (i * j)) (tVar 5) (tVar 5))) (tC (V.int 2)))))
        (tAsg (tIf (tTest (tOp (rI0 fun i j => V.bl (decide (i < j))) (tVar 5) (tC (V.int 30)))) (tOp (rI0 fun i j => V.int (i + j)) (tVar 5) (tC (V.int 1))) (tUn (rU fun i => V.int (-i)) (tC (V.int 30)))) (gName 5))
        { nx := tRet (tTup (tCons (tVar 4) (tCons (tVar 5) tNil))) { nx := fun x H' => Q V.non H', rt := Q }, rt := Q }
        [some (V.ref a), some (V.int ↑k), some v2, some v3, some (V.int mn), some (V.int t0)] H1 := by
      intro v2 v3 mn t0 H1 s1 m0 m1 t1
      obtain ⟨W, hW⟩ : ∃ W : Nat → L2.St → Hp → Prop, ∀ m σ' H', W m σ' H' ↔ ∃ t : Int, σ' = [some (V.ref a), some (V.int ↑k), some v2, some v3, some (V.int mn), some (V.int t)] ∧ t.natAbs ≤ 30 ∧ m = (if t ≤ 1 then 1 - t else 62 - t).toNat ∧ H' = H1 := ⟨_, fun _ _ _ => Iff.rfl⟩
      refine ⟨W, ⟨_, (hW _ _ _).mpr ⟨t0, rfl, t1, rfl, rfl⟩⟩, fun m σ' H' w => ?_⟩
      obtain ⟨t, rfl, t1, rfl, rfl⟩ := (hW _ _ _).mp w
      walk_at "rd"
      have next : ∃ N : L2.St → Hp → Prop, (∀ (σ' : L2.St) (H'' : Hp), N σ' H'' → ∃ m', m' < (if t ≤ 1 then 1 - t else 62 - t).toNat ∧ W m' σ' H'') ∧
          ((mn.natAbs.gcd t.natAbs ≠ 1 ∨ mn * mn + t * t < 2) → if decide (t < 30) = true then N [some (V.ref a), some (V.int ↑k), some v2, some v3, some (V.int mn), some (V.int (t + 1))] H' else N [some (V.ref a), some (V.int ↑k), some v2, some v3, some (V.int mn), some (V.int (-30))] H') := by
        refine ⟨_, fun σ'' H'' z => z, fun bad => ?_⟩
        have t1n : t ≠ 1 := fun e => by
          subst e
          rcases bad with b | b
          · exact b (Nat.gcd_one_right _)
          · have : 0 < mn * mn := by
              rcases Int.lt_or_gt_of_ne m0 with z | z
              · exact Int.mul_pos_of_neg_of_neg z z
              · exact Int.mul_pos z z
            omega
        by_cases c : t < 30
        · rw [decide_eq_true c]
          refine ifT rfl ⟨_, ?_, (hW _ _ _).mpr ⟨t + 1, rfl, by omega, rfl, rfl⟩⟩
          by_cases c1 : t ≤ 1
          · rw [if_pos c1, if_pos (by omega)]
            omega
          · rw [if_neg c1, if_neg (by omega)]
            omega
        · rw [decide_eq_false c]
          refine ifF rfl ⟨_, ?_, (hW _ _ _).mpr ⟨-30, rfl, by omega, rfl, rfl⟩⟩
          rw [if_pos (by omega), if_neg (by omega)]
          omega
      obtain ⟨N, hN, nx⟩ := next
      refine ⟨_, _, rfl, mn, t, rfl, rfl, ?_⟩
      walk_at "rd"
      by_cases c1 : mn.natAbs.gcd t.natAbs = 1
      · rw [decide_eq_true (show ((mn.natAbs.gcd t.natAbs : Nat) : Int) = 1 by omega)]
        refine ifF rfl ⟨small_mul (by omega), small_mul (by omega), ?_⟩
        by_cases c2 : mn * mn + t * t < 2
        · rw [decide_eq_true c2]
          exact ifT rfl ⟨N, hN, nx (.inr c2)⟩
        · rw [decide_eq_false c2]
          exact ifF rfl ⟨small_size (by decide), fun p np => q _ (mn, t) _ (s1.trans (same_upd np)) (isB_iff.mpr ⟨m1, t1, c1, by show 2 ≤ mn * mn + t * t; omega⟩) Pa.new⟩
      · rw [decide_eq_false (show ¬ ((mn.natAbs.gcd t.natAbs : Nat) : Int) = 1 by omega)]
        exact ifT rfl ⟨N, hN, nx (.inl c1)⟩
    refine ⟨_, _, rfl, a, ns, k, rfl, rfl, hl, ⟨by decide, by decide, by decide⟩, _, rfl, by decide, small_mul (by decide), ?_⟩
    refine ⟨_, _, _, rfl, _, _, _, rfl, rfl, rfl, by decide, by decide, by decide, fun kd H1 s1 k0 k1 => ⟨by decide, ?_⟩⟩
    refine ⟨_, _, _, rfl, _, _, _, rfl, rfl, rfl, by omega, by omega, by decide, fun mn H2 s2 d0 d1 => ⟨_, rfl, by decide, ?_⟩⟩
    refine ⟨_, _, _, rfl, _, _, _, rfl, rfl, rfl, by omega, by omega, by decide, fun th H3 s3 e0 e1 => ⟨_, rfl, _, rfl, ?_⟩⟩
    have s4 := s1.trans (s2.trans s3)
    by_cases c : kd < 2
    · rw [decide_eq_true c]
      refine ifT rfl ⟨by decide, by decide, small_size (by decide), fun p np => ⟨_, _, rfl, SqT.new, ?_⟩⟩
      obtain ⟨z, hz, ez⟩ := atI_ints (ps := [-1 - ((mn - 30).natAbs : Int) % 30, 1 + ((mn - 30).natAbs : Int) % 30]) (i := kd) k0 (by show kd < 2; exact c)
      refine ⟨_, ez, small_size (by decide), fun p2 np2 => ⟨by decide, _, SqT.new, ?_⟩⟩
      obtain ⟨y, hy, ey⟩ := atI_ints (ps := [1, -1]) (i := ((th - 30).natAbs : Int) % 2) (by omega) (by show ((th - 30).natAbs : Int) % 2 < 2; omega)
      have hz' : z ≠ 0 ∧ z.natAbs ≤ 30 := by
        rw [List.mem_cons, List.mem_singleton] at hz
        omega
      have hy' : y.natAbs ≤ 30 := by
        rw [List.mem_cons, List.mem_singleton] at hy
        omega
      refine ⟨_, ey, ?_⟩
      walk_at "rd"
      rw [decide_eq_false hz'.1]
      refine ifT rfl (loop _ _ _ _ _ (s4.trans ((same_upd np).trans (same_upd np2))) hz'.1 hz'.2 hy')
    · rw [decide_eq_false c]
      refine ifF rfl ?_
      by_cases z : mn - 30 = 0
      · rw [decide_eq_true z]
        exact ifF rfl (loop _ _ _ _ _ s4 (by decide) (by decide) (by omega))
      · rw [decide_eq_false z]
        exact ifT rfl (loop _ _ _ _ _ s4 z (by omega) (by omega))
end
end Pb
set_option Elab.async false
set_option linter.all false
set_option maxRecDepth 100000
set_option maxHeartbeats 4000000
namespace Pb
open PySem PySem.Spec PyProof.Rows L2
local macro_rules | `(tactic| walk_at "rd") => `(tactic| try simp only [L2.tSeq, L2.tRet, L2.tDrop, L2.tIfS, L2.tAsg, L2.gName, gT2, L2.tPar, L2.tTest, L2.tOp, L2.tUn, L2.tCB, L2.tCons, L2.tNil, L2.tNext, L2.tVar, L2.tC, tH, L2.tAnd, L2.tOr, L2.tNot, L2.tAndV, L2.tOrV, L2.tNotV, L2.tIf, L2.tB, L2.rI, L2.rI0, L2.rU, L2.rEq, L2.rNe, rIsN, L2.rGcd, L2.scal, L2.rIxT, L2.rIxL, L2.tTup, L2.tLst, L2.tChain, L2.tBM, L2.rAppend, L2.tSl, L2.tPart, L2.tNoPart, L2.rSlL, L2.rCat, tHmC, tHi, L2.tFld, L2.sFld, L2.tRevL, L2.rPopAt, L2.sDPut, L2.tDGet, L2.tDNotIn, L2.tDNewT, L2.start, L2.wipe, L2.cxOf, L2.Cx.nox, List.length_cons, List.length_nil, List.map_cons, List.map_nil, List.cons_append, List.nil_append, List.append_nil, List.getElem?_cons_zero, List.getElem?_cons_succ, List.set_cons_zero, List.set_cons_succ, List.replicate_succ, List.replicate_zero, Nat.reduceAdd, Nat.reduceSub, Nat.zero_add, Nat.add_zero, Nat.sub_self, Option.some.injEq, exists_eq_left', exists_eq_left, exists_and_left, List.cons.injEq, true_and, and_true, and_assoc, L2.V.bl.injEq, L2.V.int.injEq, L2.V.ref.injEq, if_true, if_false, Bool.false_eq_true, decide_true, decide_false, Bool.not_true, Bool.not_false, reduceCtorEq])

/-- a pair as a dict's key -/
def kp (z : P2) : List Key := [.inl z.1, .inl z.2]
theorem kp_inj {y z : P2} (h : kp y = kp z) : y = z := by
  unfold kp at h
  have h1 := Sum.inl.inj (List.cons.inj h).1
  have h2 := Sum.inl.inj (List.cons.inj (List.cons.inj h).2).1
  exact Prod.ext h1 h2
/-- the walk after i steps -/
structure WI (K : PySem.W.Frag) (b p : P2) (r d l : Addr) (i : Nat) (nw : V) (kvs : List (List Key × V)) (vs : List V) (H' : Hp) : Prop where
  row : H' r = some (.lst ((figs b p i).map V.int))
  see : H' d = some (.dT kvs)
  len : kvs.length = i
  old : ∀ j : Nat, j < i → valV kvs (kp (orb b p j)) = some (.int j)
  new : ∀ z, (∀ j : Nat, j < i → orb b p j ≠ z) → valV kvs (kp z) = none
  met : H' l = some (.lst vs)
  prs : PaAll K H' vs ((List.range i).map (orb b p))
  now : Pa K H' nw (orb b p i)
theorem WI.same {K : PySem.W.Frag} {b p : P2} {r d l : Addr} {i : Nat} {nw : V} {kvs : List (List Key × V)} {vs : List V} {H' H2 : Hp} (e : Same H' H2) (h : WI K b p r d l i nw kvs vs H') : WI K b p r d l i nw kvs vs H2 :=
  ⟨e _ _ h.row, e _ _ h.see, h.len, h.old, h.new, e _ _ h.met, h.prs.same e, h.now.same e⟩
theorem same_own {H H' : Hp} {a : Addr} {o : HO} (s : Same H H') (h : H a = none) : Same H (upd H' a o) := fun x u e => by
  rw [upd_ne (ne_of_none e h)]
  exact s _ _ e
def sp__law_size (K : PySem.W.Frag) : Sp := fun vs H Q _ => ∃ u, vs = [u] ∧ ∃ p : P2, Pa K H u p ∧ p.1.natAbs ≤ 1000 ∧ p.2.natAbs ≤ 1000 ∧ Q (.int (nm p)) H
def sp__law_times (K : PySem.W.Frag) : Sp := fun vs H Q _ => ∃ u v, vs = [u, v] ∧ ∃ p q : P2, Pa K H u p ∧ Pa K H v q ∧ (Sm p ∨ Sm q) ∧ ∀ x H', Same H H' → Pa K H' x (tm p q) → Q x H'
def sp__law_weight (K : PySem.W.Frag) : Sp := fun vs H Q _ => ∃ u, vs = [u] ∧ ∃ b : P2, Pa K H u b ∧ isB b = true ∧ ∀ H', Same H H' → Q (.int (wt b)) H'
def sp__law_step (K : PySem.W.Frag) : Sp := fun vs H Q _ => ∃ u g v, vs = [u, g, v] ∧ ∃ b p : P2, Pa K H u b ∧ isB b = true ∧ g = .int (wt b) ∧ Pa K H v p ∧ ∀ t H', Same H H' → StepV K H' t (fig b p) (nxt b p) → Q t H'
def sp__law_walk (K : PySem.W.Frag) : Sp := fun vs H Q _ => ∃ u v, vs = [u, v] ∧ ∃ b p : P2, Pa K H u b ∧ isB b = true ∧ Pa K H v p ∧ ∃ m n, Cyc b p m n ∧ n ≤ 4900 ∧
  ∀ a r l rs os H', Same H H' → H a = none → H r = none → H l = none → SqT K H' a [.ref r, .ref l] → H' r = some (.lst (rs.map V.int)) → (∃ vs, H' l = some (.lst vs) ∧ PaAll K H' vs os) →
    ((∃ k, Ends0 b p k ∧ rs = figs b p k ∧ os = []) ∨ ((¬ ∃ k, Ends0 b p k) ∧ rs = figs b p n ∧ os = orbs b p m n)) → Q (.ref a) H'
def sp__law_read (K : PySem.W.Frag) : Sp := fun vs H Q _ => ∃ u v, vs = [u, v] ∧ ∃ b : P2, Pa K H u b ∧ isB b = true ∧ ∃ a, ∃ ns : List Int, v = .ref a ∧ SqL K H a (ns.map V.int) ∧ ∀ x H', Same H H' → Pa K H' x (rd b ns) → Q x H'
def sp__law_is_row (K : PySem.W.Frag) : Sp := fun vs H Q _ => ∃ u v, vs = [u, v] ∧ ∃ b : P2, Pa K H u b ∧ isB b = true ∧ ∃ a, ∃ ns : List Int, v = .ref a ∧ SqL K H a (ns.map V.int) ∧ ns.length ≤ 1000000 ∧ ∀ H', Same H H' → Q (.bl (rowB b ns)) H'
def sp__law_is_round (K : PySem.W.Frag) : Sp := fun vs H Q _ => ∃ u v, vs = [u, v] ∧ ∃ (a c : Addr) (qs ps : List P2), u = .ref a ∧ v = .ref c ∧ PaL K H a qs ∧ PaL K H c ps ∧ ps.length ≤ 100000 ∧ qs.length ≤ 100000 ∧ ∀ H', Same H H' → Q (.bl (!decide (qs = []) && sameB ps qs)) H'
def sp__law_says : Sp := fun vs H Q _ => ∃ u v, vs = [u, v] ∧ ∃ a b : Bool, u = .bl a ∧ v = .bl b ∧ Q (.bl (decide (a = b))) H

section
variable {P : Program} {w : World} {K : PySem.W.Frag} {mg : Str → Option Value} {base : Heap}
abbrev s__law_size : Stmt := top 50
theorem sc__law_size : FnScope ["_law_base_here"] ["_law_base_here"] (defScope s__law_size) := ⟨rfl, rfl, rfl, by decide +kernel, rfl, by decide +kernel, by decide +kernel⟩
theorem ok__law_size {f : Addr} {fd : FuncData} (F : Fun K "_law_size" "_law_size" s__law_size f fd) (T : Txt K mg) : FnOk P w K mg base CX0 1 f fd ["_law_base_here"] (sp__law_size K) := by
  refine F.ok sc__law_size (fun vs H Q E h => ?_) (fun cdv A outer s H vs Q E hr h => ?_)
  · obtain ⟨_, rfl, _⟩ := h; rfl
  · obtain ⟨u, rfl, p, ⟨a, rfl, h⟩, h1, h2, q⟩ := h
    refine ⟨_, (pss_one (ps_ret (pe_op op_add (pe_op op_mul (pe_ix ix_tup (pv 0) pe_int (fun _ _ => rfl)) (pe_ix ix_tup (pv 0) pe_int (fun _ _ => rfl))) (pe_op op_mul (pe_ix ix_tup (pv 0) pe_int (fun _ _ => rfl)) (pe_ix ix_tup (pv 0) pe_int (fun _ _ => rfl)))))), ?_⟩
    walk_at "rd"
    have h' := SqT.of (K := K) h
    exact ⟨_, h', _, rfl, _, h', _, rfl, _, rfl, _, rfl, small_mul (by omega), _, h', _, rfl, _, h', _, rfl, _, rfl, _, rfl, small_mul (by omega), q⟩
end
end Pb
set_option Elab.async false
set_option linter.all false
set_option maxRecDepth 100000
set_option maxHeartbeats 4000000
namespace Pb
open PySem PySem.Spec PyProof.Rows L2
local macro_rules | `(tactic| walk_at "rd") => `(tactic| try simp only [L2.tSeq, L2.tRet, L2.tDrop, L2.tIfS, L2.tAsg, L2.gName, gT2, L2.tPar, L2.tTest, L2.tOp, L2.tUn, L2.tCB, L2.tCons, L2.tNil, L2.tNext, L2.tVar, L2.tC, tH, L2.tAnd, L2.tOr, L2.tNot, L2.tAndV, L2.tOrV, L2.tNotV, L2.tIf, L2.tB, L2.rI, L2.rI0, L2.rU, L2.rEq, L2.rNe, rIsN, L2.rGcd, L2.scal, L2.rIxT, L2.rIxL, L2.tTup, L2.tLst, L2.tChain, L2.tBM, L2.rAppend, L2.tSl, L2.tPart, L2.tNoPart, L2.rSlL, L2.rCat, tHmC, tHi, L2.tFld, L2.sFld, L2.tRevL, L2.rPopAt, L2.sDPut, L2.tDGet, L2.tDNotIn, L2.tDNewT, L2.start, L2.wipe, L2.cxOf, L2.Cx.nox, List.length_cons, List.length_nil, List.map_cons, List.map_nil, List.cons_append, List.nil_append, List.append_nil, List.getElem?_cons_zero, List.getElem?_cons_succ, List.set_cons_zero, List.set_cons_succ, List.replicate_succ, List.replicate_zero, Nat.reduceAdd, Nat.reduceSub, Nat.zero_add, Nat.add_zero, Nat.sub_self, Option.some.injEq, exists_eq_left', exists_eq_left, exists_and_left, List.cons.injEq, true_and, and_true, and_assoc, L2.V.bl.injEq, L2.V.int.injEq, L2.V.ref.injEq, if_true, if_false, Bool.false_eq_true, decide_true, decide_false, Bool.not_true, Bool.not_false, reduceCtorEq])
theorem seq_cut {s t : TS} {D : Ends} {σ : L2.St} {H : Hp} (M : L2.St → Hp → Prop) (h : ∀ N : L2.St → Hp → Prop, (∀ σ' H', M σ' H' → N σ' H') → s { D with nx := N } σ H) (h2 : ∀ σ' H', M σ' H' → t D σ' H') : tSeq s t D σ H := h _ h2
theorem cyc_ok {b p : P2} (h : isB b = true) (h1 : p.1.natAbs ≤ 10 ^ 40) (h2 : p.2.natAbs ≤ 10 ^ 40) : ∃ m n, Cyc b p m n ∧ n ≤ 4900 := by
  have g := good h
  have e1 : p.1 * p.1 = ((p.1.natAbs * p.1.natAbs : Nat) : Int) := Int.natAbs_mul_self.symm
  have e2 : p.2 * p.2 = ((p.2.natAbs * p.2.natAbs : Nat) : Int) := Int.natAbs_mul_self.symm
  have l1 := Nat.mul_le_mul h1 h1
  have l2 := Nat.mul_le_mul h2 h2
  have big : (2 * (10 ^ 40 * 10 ^ 40 : Nat) : Int) ≤ 4 ^ 131 * 80 := by decide
  have two := g.two
  have hq : qn p ≤ 4 ^ 131 * (40 * nm b) := by
    have m : (4 : Int) ^ 131 * 80 ≤ 4 ^ 131 * (40 * nm b) := Int.mul_le_mul_of_nonneg_left (by omega) (by decide)
    unfold qn
    rw [e1, e2]
    generalize (4 : Int) ^ 131 * (40 * nm b) = M at *
    generalize (4 : Int) ^ 131 * 80 = M2 at *
    generalize (10 ^ 40 * 10 ^ 40 : Nat) = T at *
    omega
  obtain ⟨m, n, hn, hc⟩ := cyc_exists g 131 hq
  exact ⟨m, n, hc, by omega⟩
def rgB (d L : Nat) : Bool := Builtin.Range.small 0 L (1 + (L : Int) / d) && decide (0 ≤ Builtin.Range.rangeSize 0 L (1 + (L : Int) / d)) && (List.range (Builtin.Range.rangeSize 0 L (1 + (L : Int) / d)).toNat).all fun i => decide ((i : Int) * (1 + (L : Int) / d) < L)
theorem rg_all : ((List.range 64).all fun L => rgB 4 L && rgB 6 L && rgB 8 L) = true := by decide +kernel
theorem rg_of {L : Nat} (h : L ≤ 63) {d : Nat} (hd : d = 4 ∨ d = 6 ∨ d = 8) : ∃ n, RgC 0 L (1 + (L : Int) / d) n ∧ ∀ i : Nat, i < n → (i : Int) * (1 + (L : Int) / d) < L := by
  have a := List.all_eq_true.mp rg_all L (List.mem_range.mpr (by omega))
  have a' : rgB d L = true := by
    rw [Bool.and_eq_true, Bool.and_eq_true] at a
    rcases hd with rfl | rfl | rfl
    · exact a.1.1
    · exact a.1.2
    · exact a.2
  unfold rgB at a'
  rw [Bool.and_eq_true, Bool.and_eq_true, decide_eq_true_eq] at a'
  obtain ⟨⟨a1, a2⟩, a3⟩ := a'
  have q0 : 0 ≤ (L : Int) / d := Int.ediv_nonneg (by omega) (by omega)
  have q1 : (L : Int) / d ≤ L := Int.ediv_le_self _ (by omega)
  refine ⟨(Builtin.Range.rangeSize 0 L (1 + (L : Int) / d)).toNat, ⟨by omega, by omega, a1, by omega⟩, fun i hi => ?_⟩
  exact of_decide_eq_true (List.all_eq_true.mp a3 i (List.mem_range.mpr hi))
theorem cut_hd {xs : List V} (h : xs.length ≤ 63) : cutV xs none (some 63) = xs := by
  unfold cutV
  have e1 : HT.sIx xs.length xs.length (some 63) = min 63 xs.length := HT.sIx_nat _ _ 63
  rw [HT.sIx_none, e1, List.drop_zero, Nat.sub_zero, Nat.min_eq_right (by omega), List.take_length]
/-- what step gives, as data -/
def sD (f : Int) (z : P2) : PyData := .tuple [.int f, pD z]
theorem StepV.dp {K : PySem.W.Frag} {H : Hp} {t : V} {f : Int} {z : P2} (h : StepV K H t f z) : Dp K H t (sD f z) := by
  obtain ⟨a, v, rfl, h1, h2⟩ := h
  exact .tup h1 (.cons (.int _) (.cons h2.dp .nil))
theorem StepV.same {K : PySem.W.Frag} {H H' : Hp} {t : V} {f : Int} {z : P2} (e : Same H H') (h : StepV K H t f z) : StepV K H' t f z := by
  obtain ⟨a, v, rfl, h1, h2⟩ := h
  exact ⟨a, v, rfl, SqT.same e h1, h2.same e⟩
theorem sD_shaped (f : Int) (z : P2) : SeqAt.shaped (sD f z) = true := by
  unfold sD pD
  simp [SeqAt.shaped, PyData.canLay0, PyData.canLayAll0, PyData.depth, PyData.depthAll]
theorem sD_eqv (f : Int) (z : P2) : PyData.eqv (sD f z) (sD f z) = true := by
  unfold sD pD
  simp [PyData.eqv, PyData.eqvAll]

/-- the classes' addresses -/
structure Cs (mg : Str → Option Value) (C1 C2 C3 C4 CV : Addr) : Prop where
  g1 : mg "BadBase" = some (.ref C1)
  g2 : mg "BadPair" = some (.ref C2)
  g3 : mg "BadRow" = some (.ref C3)
  g4 : mg "BadNumber" = some (.ref C4)
  g5 : mg "Never" = some (.ref CV)
  z : mg "ValueError" = none
/-- what isinstance says of an error of the class D -/
structure Kinds (K : PySem.W.Frag) (D C1 C2 C3 C4 CV : Addr) (b1 b2 b3 b4 b5 : Bool) : Prop where
  c : ExcC K D
  i1 : PySem.W.kitOne K (.ref D) (.ref C1) = some b1
  i2 : PySem.W.kitOne K (.ref D) (.ref C2) = some b2
  i3 : PySem.W.kitOne K (.ref D) (.ref C3) = some b3
  i4 : PySem.W.kitOne K (.ref D) (.ref C4) = some b4
  i5 : PySem.W.kitOne K (.ref D) (.ref CV) = some b5
  i6 : PySem.W.kitOne K (.ref D) (.type "ValueError") = some true
def sp_kinds (K : PySem.W.Frag) (a : Addr) (bs : List Bool) : Sp := fun vs H Q _ => vs = [.ref a] ∧ ∀ d H', Same H H' → SqL K H' d (bs.map V.bl) → Q (.ref d) H'
abbrev s__law_kinds : Stmt := top 51
theorem sc__law_kinds : FnScope ["_law_error", "_law_found"] ["_law_error"] (defScope s__law_kinds) := ⟨rfl, rfl, rfl, by decide +kernel, rfl, by decide +kernel, by decide +kernel⟩

theorem okP_kinds {P : Program} {w : World} {K : PySem.W.Frag} {mg : Str → Option Value} {base : Heap} {CX : CXT} {f : Addr} {fd : FuncData} {D C1 C2 C3 C4 CV a : Addr} {oe : Obj} {b1 b2 b3 b4 b5 : Bool} (F : Fun K "_law_kinds" "_law_kinds" s__law_kinds f fd) (T : Txt K mg) (N : Cs mg C1 C2 C3 C4 CV)
    (hk : Kinds K D C1 C2 C3 C4 CV b1 b2 b3 b4 b5) (hz : L2.Zc (.ref D) none oe) (hf : ∃ vs, oe.data = .fields vs) : FnHp P w K mg base CX 1 f fd ["_law_error"] (a, oe) (sp_kinds K a [b1, b2, b3, b4, b5, true]) := by
  refine okHp F sc__law_kinds (fun vs H Q E h => ?_) (fun cdv A outer s H vs Q E hot hr h => ?_)
  · obtain ⟨rfl, _⟩ := h; rfl
  · obtain ⟨rfl, q⟩ := h
    have g_BadBase := N.g1
    have g_BadPair := N.g2
    have g_BadRow := N.g3
    have g_BadNumber := N.g4
    have g_Never := N.g5
    refine ⟨_, (pss_cons (ps_set (i := 1) sc__law_kinds.nd rfl (Or.inl rfl) (pe_lst (pa_cons (pe_callB (call_isP List.mem_cons_self hk.c hz hf) (by rfl) T.z_isinstance (by decide +kernel) (pa_cons (pv 0) (pa_cons (pe_glob (by rfl) g_BadBase (show RelV (.ref C1) _ from rfl)) pa_nil))) (pa_cons (pe_callB (call_isP List.mem_cons_self hk.c hz hf) (by rfl) T.z_isinstance (by decide +kernel) (pa_cons (pv 0) (pa_cons (pe_glob (by rfl) g_BadPair (show RelV (.ref C2) _ from rfl)) pa_nil))) (pa_cons (pe_callB (call_isP List.mem_cons_self hk.c hz hf) (by rfl) T.z_isinstance (by decide +kernel) (pa_cons (pv 0) (pa_cons (pe_glob (by rfl) g_BadRow (show RelV (.ref C3) _ from rfl)) pa_nil))) pa_nil)))))
      (pss_one (ps_ret (pe_op op_cat (pv 1) (pe_lst (pa_cons (pe_callB (call_isP List.mem_cons_self hk.c hz hf) (by rfl) T.z_isinstance (by decide +kernel) (pa_cons (pv 0) (pa_cons (pe_glob (by rfl) g_BadNumber (show RelV (.ref C4) _ from rfl)) pa_nil))) (pa_cons (pe_callB (call_isP List.mem_cons_self hk.c hz hf) (by rfl) T.z_isinstance (by decide +kernel) (pa_cons (pv 0) (pa_cons (pe_glob (by rfl) g_Never (show RelV (.ref CV) _ from rfl)) pa_nil))) (pa_cons (pe_callB (call_isP List.mem_cons_self hk.c hz hf) (by rfl) T.z_isinstance (by decide +kernel) (pa_cons (pv 0) (pa_cons (pe_bltn (v := .ty "ValueError") (u := .type "ValueError") (by rfl) N.z (by decide +kernel) rfl) pa_nil))) pa_nil)))))))), ?_⟩
    walk_at "rd"
    have is : ∀ (H' : Hp) (C : Addr) (r : Bool) (R : VK), PySem.W.kitOne K (.ref D) (.ref C) = some r → R (.bl r) H' → rIsE K D a [V.ref a, V.ref C] H' R := fun H' C r R h1 hR => ⟨_, _, r, rfl, fun u h => h, h1, hR⟩
    have it : ∀ (H' : Hp) (R : VK), R (.bl true) H' → rIsE K D a [V.ref a, V.ty "ValueError"] H' R := fun H' R hR => ⟨_, _, true, rfl, fun u h => h, hk.i6, hR⟩
    refine is _ _ _ _ hk.i1 (is _ _ _ _ hk.i2 (is _ _ _ _ hk.i3 ⟨small_size (by decide), fun p1 np1 => is _ _ _ _ hk.i4 (is _ _ _ _ hk.i5 (it _ _ ⟨small_size (by decide), fun p2 np2 => ?_⟩))⟩))
    have t1 : Same H _ := same_upd (o := .lst [V.bl b1, V.bl b2, V.bl b3]) np1
    have t2 := same_upd (o := .lst [V.bl b4, V.bl b5, V.bl true]) np2
    refine ⟨_, t2 _ _ upd_same, _, upd_same, small_size (show 6 ≤ 16000000 by decide), fun p3 np3 => ?_⟩
    exact q _ _ (t1.trans (t2.trans (same_upd np3))) SqL.new

/-- the suite's call: the class is known by the way out -/
def tKindsG (K : PySem.W.Frag) (C1 C2 C3 C4 CV : Addr) (cls : Value) (d : Option Addr) (a : Addr) (t : TA) : TE := fun σ H Q => ∃ (D : Addr) (b1 b2 b3 b4 b5 : Bool), cls = .ref D ∧ d = none ∧ Kinds K D C1 C2 C3 C4 CV b1 b2 b3 b4 b5 ∧ tCallS (sp_kinds K a [b1, b2, b3, b4, b5, true]) (fun _ _ _ _ => False) t σ H Q
theorem pe_kindsG {X : L2.Cx} {f : Addr} {fd : FuncData} {C1 C2 C3 C4 CV a : Addr} {oe : Obj} {pn : List (Addr × Obj)} {cls : Value} {d : Option Addr} {q pos : Pos} {e : Expr} {es : List Expr} {t : TA} (F : Fun X.K "_law_kinds" "_law_kinds" s__law_kinds f fd) (T : Txt X.K X.mg) (N : Cs X.mg C1 C2 C3 C4 CV) (hz : L2N.Zn cls d oe) (hf : ∃ vs, oe.data = Data.fields vs)
    (hr : L2H.RoomH 1 (X.suite a ((a, oe) :: pn)).A) (hg : Gl X "_law_kinds") (hm : X.mg "_law_kinds" = some (.ref f)) (hk : PySem.W.keepIn X.K (.ref f) = true) (hb : Binds X.K fd ["_law_error"] [])
    (ha : PA (X.suite a ((a, oe) :: pn)) (e :: es) t) (he : starEach (e :: es) X.env = (false, eval e X.env) :: starEach es X.env := by rfl) (hpl : (backTo pos (starEach es X.env)).any (·.1) = false := by rfl) :
    PE (X.suite a ((a, oe) :: pn)) (.Call (.Name "_law_kinds" q) (e :: es) [] pos) (tKindsG X.K C1 C2 C3 C4 CV cls d a t) := by
  refine ⟨fun pins s σ H Q I h => ?_⟩
  obtain ⟨D, b1, b2, b3, b4, b5, rfl, rfl, k, h⟩ := h
  obtain ⟨vs, e1⟩ := id hf
  have G : FnHp X.prog X.w X.K X.mg X.base CX0 1 f fd ["_law_error"] (a, oe) (sp_kinds X.K a [b1, b2, b3, b4, b5, true]) := okP_kinds F T N k ⟨hz.1, hz.2.1⟩ hf
  exact (pe_callHp (X := X.suite a ((a, oe) :: pn)) (E := fun _ _ _ _ => False) G hr ⟨rfl, vs, e1, hz.2.2 vs e1⟩ List.mem_cons_self hg hm hk hb (fun σ pins H s e s' I h => by first | exact absurd h id | (obtain ⟨_, _, _, _, _, _, h⟩ := h; exact absurd h id) | exact h.elim) ha (by decide) he hpl).run pins s σ H Q I h
abbrev s__law_told : Stmt := top 56
theorem sc__law_told : FnScope ["_law_ask", "_law_one", "_law_other", "_law_error"] ["_law_ask", "_law_one", "_law_other"] (defScope s__law_told) := ⟨rfl, rfl, rfl, by decide +kernel, rfl, by decide +kernel, by decide +kernel⟩

def LawKinds (K : PySem.W.Frag) (mg : Str → Option Value) : Prop := ∃ (f : Addr) (fd : FuncData), Fun K "_law_kinds" "_law_kinds" s__law_kinds f fd ∧ mg "_law_kinds" = some (.ref f) ∧ PySem.W.keepIn K (.ref f) = true ∧ Binds K fd ["_law_error"] []
/-- the asked def refuses with an error of the class D: its kinds come back -/
def sp__law_told (K : PySem.W.Frag) (S : Addr → Sp → Prop) (CB C1 C2 C3 C4 CV : Addr) : Sp := fun vs H Q _ => ∃ (f : Addr) (u v : V) (sp : Sp), vs = [.ref f, u, v] ∧ S f sp ∧ ∃ (D : Addr) (b1 b2 b3 b4 b5 : Bool), PySem.W.exmOne K (.ref D) (.ref CB) = some true ∧ Kinds K D C1 C2 C3 C4 CV b1 b2 b3 b4 b5 ∧
  (∀ (Q' : VK) (E' : XK), (∀ H', Same H H' → E' (.ref D) none H') → sp [u, v] H Q' E') ∧ ∀ d H', Same H H' → SqL K H' d ([b1, b2, b3, b4, b5, true].map V.bl) → Q (.ref d) H'
theorem ok__law_told {P : Program} {w : World} {K : PySem.W.Frag} {mg : Str → Option Value} {base : Heap} {k : Nat} {f : Addr} {fd : FuncData} {CB C1 C2 C3 C4 CV : Addr} {S : Addr → Sp → Prop} (F : Fun K "_law_told" "_law_told" s__law_told f fd) (T : Txt K mg) (N : Cs mg C1 C2 C3 C4 CV) (hB : mg "BaseError" = some (.ref CB)) (LK : LawKinds K mg) (k1 : 1 ≤ k)
    (hS : ∀ f sp, S f sp → HeldX P w K mg base k f sp) : FnOk P w K mg base CX0 (k + 1) f fd ["_law_ask", "_law_one", "_law_other"] (sp__law_told K S CB C1 C2 C3 C4 CV) := by
  refine F.ok sc__law_told (fun vs H Q E h => ?_) (fun cdv A outer s H vs Q E hr h => ?_)
  · obtain ⟨_, _, _, _, rfl, _⟩ := h; rfl
  · obtain ⟨g, u, v, sp, rfl, hg, D, b1, b2, b3, b4, b5, hx, hk, hp, q⟩ := h
    obtain ⟨fk, fdk, Fk, mk, kk, bk⟩ := LK
    refine ⟨_, (pss_cons (L2N.ps_try_as (i := 3) rfl rfl sc__law_told.nd rfl rfl ⟨rfl, by decide, .inl hB⟩ takes0N (fun W pn xe tk _ => (pss_one (ps_expr (pe_callAX (i := 0) tk hS hr rfl (Or.inl rfl) (pa_cons (pv 1) (pa_cons (pv 2) pa_nil)))))) (fun a oe cls d pn hz hf => (pss_one (ps_ret (pe_kindsG Fk T N hz hf (L2H.RoomH.mono (j := 1) (k := k) ⟨hr.dp, hr.un⟩ k1) (by rfl) mk kk bk (pa_cons (pv 3) pa_nil))))))
      (pss_one (ps_ret (pe_lst pa_nil)))), ?_⟩
    walk_at "rd"
    refine ⟨g, sp, rfl, hg, ?_⟩
    walk_at "rd"
    refine hp _ _ fun H1 s1 => ?_
    refine ⟨true, hx, fun _ a ha => ?_, fun z => nomatch z⟩
    refine ⟨D, b1, b2, b3, b4, b5, rfl, rfl, hk, ?_⟩
    refine ⟨_, rfl, rfl, fun d H' s' hl => ?_⟩
    exact q d H' (s1.trans s') hl

/-- an own exception class, to be raised -/
structure ExK (K : PySem.W.Frag) (C : Addr) : Prop where
  x : PySem.W.excIn K C [.type "ValueError", .type "Exception", .type "BaseException", .type "object"] "ValueError.__new__" = true
  k : PySem.W.keepIn K (.ref C) = true
  b : PySem.W.subIn K (.ref C) (.type "BaseException") = some true
  t : PySem.W.typeIn K (.ref C) = some (.type "type")
def BadB (K : PySem.W.Frag) (H : Hp) (u : V) : Prop := NoPair K H u ∨ ∃ p : P2, Pa K H u p ∧ isB p = false
def sp_need_baseX (K : PySem.W.Frag) (C : Addr) : Sp := fun vs H Q E => ∃ u, vs = [u] ∧ ((BadB K H u ∧ E (.ref C) none H) ∨ ∃ p : P2, Pa K H u p ∧ isB p = true ∧ Q .non H)

theorem okX_need_base {P : Program} {w : World} {K : PySem.W.Frag} {mg : Str → Option Value} {base : Heap} {f : Addr} {fd : FuncData} {C1 C2 C3 C4 CV : Addr} (F : Fun K "need_base" "need_base" s_need_base f fd) (T : Txt K mg) (N : Cs mg C1 C2 C3 C4 CV) (X1 : ExK K C1) (h_is_base : Has P w K mg base "is_base" 3 ["thing"] (sp_is_base K)) : FnOk P w K mg base (L2N.CX P w) 4 f fd ["thing"] (sp_need_baseX K C1) := by
  refine okN F sc_need_base (fun vs H Q E h => ?_) (fun cdv A outer s H vs Q E hr h => ?_)
  · obtain ⟨_, rfl, _⟩ := h; rfl
  · obtain ⟨u, rfl, h⟩ := h
    have g_BadBase := N.g1
    refine ⟨_, (pss_one (ps_if (pt_not (pt_val (pe_H h_is_base (hr.mono (by decide)) (by rfl) (pa_cons (pv 0) pa_nil)))) (pss_one (L2N.ps_raise rfl (L2N.takes_of rfl rfl rfl rfl) (L2N.pmk_own PySem.F.excBase_ValueError X1.x g_BadBase X1.k (raises_own X1.b X1.t) rfl))) pss_nil)), ?_⟩
    walk_at "rd"
    rcases h with ⟨hb, e⟩ | ⟨p, hp, hb, q⟩
    · rcases hb with np | ⟨p, hp, hb⟩
      · exact ⟨_, rfl, .inl ⟨np, false, rfl, ifT rfl e⟩⟩
      · exact ⟨_, rfl, .inr ⟨p, hp, isB p, rfl, by rw [hb]; exact ifT rfl e⟩⟩
    · exact ⟨_, rfl, .inr ⟨p, hp, isB p, rfl, by rw [hb]; exact q⟩⟩

def sp_need_pairX (K : PySem.W.Frag) (C : Addr) : Sp := fun vs H Q E => ∃ u, vs = [u] ∧ ((PairV K H u false ∧ E (.ref C) none H) ∨ ∃ p : P2, Pa K H u p ∧ Q .non H)

theorem okX_need_pair {P : Program} {w : World} {K : PySem.W.Frag} {mg : Str → Option Value} {base : Heap} {f : Addr} {fd : FuncData} {C1 C2 C3 C4 CV : Addr} (F : Fun K "need_pair" "need_pair" s_need_pair f fd) (T : Txt K mg) (N : Cs mg C1 C2 C3 C4 CV) (X2 : ExK K C2) (h_is_pair : Has P w K mg base "is_pair" 2 ["thing"] (sp_is_pair K)) : FnOk P w K mg base (L2N.CX P w) 3 f fd ["thing"] (sp_need_pairX K C2) := by
  refine okN F sc_need_pair (fun vs H Q E h => ?_) (fun cdv A outer s H vs Q E hr h => ?_)
  · obtain ⟨_, rfl, _⟩ := h; rfl
  · obtain ⟨u, rfl, h⟩ := h
    have g_BadPair := N.g2
    refine ⟨_, (pss_one (ps_if (pt_not (pt_val (pe_H h_is_pair (hr.mono (by decide)) (by rfl) (pa_cons (pv 0) pa_nil)))) (pss_one (L2N.ps_raise rfl (L2N.takes_of rfl rfl rfl rfl) (L2N.pmk_own PySem.F.excBase_ValueError X2.x g_BadPair X2.k (raises_own X2.b X2.t) rfl))) pss_nil)), ?_⟩
    walk_at "rd"
    rcases h with ⟨np, e⟩ | ⟨p, hp, q⟩
    · exact ⟨_, rfl, false, np, false, rfl, ifT rfl e⟩
    · exact ⟨_, rfl, true, .inl ⟨rfl, p, hp⟩, true, rfl, q⟩
def sp_pair_by (K : PySem.W.Frag) : Sp := fun vs H Q _ => ∃ u v, vs = [u, v] ∧ ∃ (b : P2) (z : Int), Pa K H u b ∧ isB b = true ∧ v = .int z ∧ 0 ≤ z ∧ z < 2 ^ 400 ∧ ∀ x H', Same H H' → Pa K H' x (rd b (dig (nm b) z)) → Q x H'

section
variable {P : Program} {w : World} {K : PySem.W.Frag} {mg : Str → Option Value} {base : Heap}
abbrev s_pair_by : Stmt := top 42
theorem sc_pair_by : FnScope ["base", "number", "many", "row", "rest"] ["base", "number"] (defScope s_pair_by) := ⟨rfl, rfl, rfl, by decide +kernel, rfl, by decide +kernel, by decide +kernel⟩
theorem ok_pair_by {f : Addr} {fd : FuncData} (F : Fun K "pair_by" "pair_by" s_pair_by f fd) (T : Txt K mg) (h_size : Has P w K mg base "size" 5 ["base"] (sp_size K)) (h_is_number : Has P w K mg base "is_number" 1 ["thing"] (sp_is_number K)) (h_read : Has P w K mg base "read" 7 ["base", "row"] (sp_read K)) : FnOk P w K mg base CX0 8 f fd ["base", "number"] (sp_pair_by K) := by
  refine F.ok sc_pair_by (fun vs H Q E h => ?_) (fun cdv A outer s H vs Q E hr h => ?_)
  · obtain ⟨_, _, rfl, _⟩ := h; rfl
  · obtain ⟨u, v, rfl, b, z, hu, hb, rfl, z0, z1, q⟩ := h
    refine ⟨_, (pss_cons (ps_set (i := 2) sc_pair_by.nd rfl (Or.inl rfl) (pe_H h_size (hr.mono (by decide)) (by rfl) (pa_cons (pv 0) pa_nil)))
      (pss_cons (ps_if (PW.pt (pw_or (pt_not (pt_val (pe_H h_is_number (hr.mono (by decide)) (by rfl) (pa_cons (pv 1) pa_nil)))) (pw_or1 (pt_cmpR op_lt (pv 1) pe_int (nomark _))))) (pss_one ps_never) pss_nil)
      (pss_cons (ps_set (i := 3) sc_pair_by.nd rfl (Or.inl rfl) (pe_lst pa_nil))
      (pss_cons (ps_set (i := 4) sc_pair_by.nd rfl (Or.inl rfl) (pv 1))
      (pss_cons (ps_while PassesOwn.never (pt_cmpR op_gt (pv 4) pe_int (nomark _)) (pss_cons (ps_expr (pe_bm PySem.F.plainAttrs_list PySem.F.slot_list_append PySem.F.type_list_append mt_append (pv 3) (pa_cons (pe_op op_mod (pv 4) (pv 2)) pa_nil)))
      (pss_one (ps_set (i := 4) sc_pair_by.nd rfl (Or.inl rfl) (pe_op op_fdiv (pv 4) (pv 2))))))
      (pss_one (ps_ret (pe_H h_read (hr.mono (by decide)) (by rfl) (pa_cons (pv 0) (pa_cons (pv 3) pa_nil)))))))))), ?_⟩
    walk_at "rd"
    have g := good hb
    have ld : (dig (nm b) z).length ≤ 400 := dig_len g.two _ _ z1
    clear z1
    have n2 := g.two
    have n1 := g.le
    refine ⟨_, rfl, b, hu, hb, _, rfl, .inl ⟨_, rfl, _, rfl, ifF rfl ?_⟩⟩
    rw [decide_eq_false (show ¬ z < 0 by omega)]
    refine ifF rfl ⟨small_size (by decide), fun l nl => ?_⟩
    obtain ⟨W, hW⟩ : ∃ W : Nat → L2.St → Hp → Prop, ∀ m σ' H', W m σ' H' ↔ ∃ (r : Int) (ns : List Int), σ' = [some u, some (.int z), some (.int (nm b)), some (.ref l), some (.int r)] ∧ Same H H' ∧ m = r.toNat ∧ H' l = some (.lst (ns.map V.int)) ∧ ns ++ dig (nm b) r = dig (nm b) z := ⟨_, fun _ _ _ => Iff.rfl⟩
    refine ⟨W, ⟨_, (hW _ _ _).mpr ⟨z, [], rfl, same_upd nl, rfl, upd_same, rfl⟩⟩, fun m σ' H' w => ?_⟩
    obtain ⟨r, ns, rfl, hs, rfl, hL, he⟩ := (hW _ _ _).mp w
    have le := congrArg List.length he
    rw [List.length_append] at le
    walk_at "rd"
    by_cases c : 0 < r
    · rw [decide_eq_true c]
      refine ifT rfl ⟨_, fun σ'' H'' z => z, ?_⟩
      have hd := div_small n2 c
      have ds := dig_step n2 c
      refine ⟨.inl ⟨rfl, _, SqL.of hL⟩, by omega, _, hL, small_size_lt (by rw [List.length_map]; omega), ⟨by omega, by omega⟩, (r / nm b).toNat, hd.2, (hW _ _ _).mpr ⟨r / nm b, ns ++ [r % nm b], rfl, same_own hs nl, rfl, ?_, ?_⟩⟩
      · rw [upd_same, List.map_append]
        rfl
      · rw [← he, ds, List.append_assoc]
        rfl
    · rw [decide_eq_false c]
      rw [dig_zero _ c, List.append_nil] at he
      subst he
      refine ifF rfl ⟨_, _, rfl, b, l, _, hu.same hs, hb, rfl, SqL.of hL, by omega, dig_row g z, fun x H2 s2 hx => q _ _ (hs.trans s2) hx⟩
end
end Pb
set_option Elab.async false
set_option linter.all false
set_option maxRecDepth 100000
set_option maxHeartbeats 4000000
namespace Pb
open PySem PySem.Spec PyProof.Rows L2
local macro_rules | `(tactic| walk_at "rd") => `(tactic| try simp only [L2.tSeq, L2.tRet, L2.tDrop, L2.tIfS, L2.tAsg, L2.gName, gT2, L2.tPar, L2.tTest, L2.tOp, L2.tUn, L2.tCB, L2.tCons, L2.tNil, L2.tNext, L2.tVar, L2.tC, tH, L2.tAnd, L2.tOr, L2.tNot, L2.tAndV, L2.tOrV, L2.tNotV, L2.tIf, L2.tB, L2.rI, L2.rI0, L2.rU, L2.rEq, L2.rNe, rIsN, L2.rGcd, L2.scal, L2.rIxT, L2.rIxL, L2.tTup, L2.tLst, L2.tChain, L2.tBM, L2.rAppend, L2.tSl, L2.tPart, L2.tNoPart, L2.rSlL, L2.rCat, tHmC, tHi, L2.tFld, L2.sFld, L2.tRevL, L2.rPopAt, L2.sDPut, L2.tDGet, L2.tDNotIn, L2.tDNewT, L2.start, L2.wipe, L2.cxOf, L2.Cx.nox, List.length_cons, List.length_nil, List.map_cons, List.map_nil, List.cons_append, List.nil_append, List.append_nil, List.getElem?_cons_zero, List.getElem?_cons_succ, List.set_cons_zero, List.set_cons_succ, List.replicate_succ, List.replicate_zero, Nat.reduceAdd, Nat.reduceSub, Nat.zero_add, Nat.add_zero, Nat.sub_self, Option.some.injEq, exists_eq_left', exists_eq_left, exists_and_left, List.cons.injEq, true_and, and_true, and_assoc, L2.V.bl.injEq, L2.V.int.injEq, L2.V.ref.injEq, if_true, if_false, Bool.false_eq_true, decide_true, decide_false, Bool.not_true, Bool.not_false, reduceCtorEq])

def GoodB (K : PySem.W.Frag) (H : Hp) (u : V) : Prop := ∃ b : P2, Pa K H u b ∧ isB b = true
theorem NoPair.same {K : PySem.W.Frag} {H H' : Hp} {v : V} (e : Same H H') (h : NoPair K H v) : NoPair K H' v := by
  rcases h with ⟨t, h1, h2⟩ | ⟨a, xs, rfl, h1, h2 | ⟨x, y, rfl, h2 | ⟨h2, h3⟩⟩⟩
  · exact .inl ⟨t, TyX.same e h1, h2⟩
  · exact .inr ⟨a, xs, rfl, SqT.same e h1, .inl h2⟩
  · exact .inr ⟨a, _, rfl, SqT.same e h1, .inr ⟨x, y, rfl, .inl (h2.same e)⟩⟩
  · exact .inr ⟨a, _, rfl, SqT.same e h1, .inr ⟨x, y, rfl, .inr ⟨h2, h3.same e⟩⟩⟩
def sp_refB (K : PySem.W.Frag) (C1 : Addr) : Sp := fun vs H _ E => ∃ u, vs = [u] ∧ BadB K H u ∧ E (.ref C1) none H
def sp_sizeX (K : PySem.W.Frag) (C1 : Addr) : Sp := fun vs H Q E => sp_refB K C1 vs H Q E ∨ sp_size K vs H Q E
def sp_timesX (K : PySem.W.Frag) (C2 : Addr) : Sp := fun vs H _ E => ∃ u v, vs = [u, v] ∧ (NoPair K H u ∨ ((∃ p, Pa K H u p) ∧ NoPair K H v)) ∧ E (.ref C2) none H
def sp_twoX (K : PySem.W.Frag) (C1 C2 : Addr) : Sp := fun vs H _ E => ∃ u v, vs = [u, v] ∧ ((BadB K H u ∧ E (.ref C1) none H) ∨ (GoodB K H u ∧ NoPair K H v ∧ E (.ref C2) none H))
/-- what is no row -/
def BadR (K : PySem.W.Frag) (H : Hp) (b : P2) (v : V) : Prop := NoList K H v ∨ ∃ a xs, v = .ref a ∧ SqL K H a xs ∧ xs.length ≤ 1000000 ∧ ((∃ rs, Paired (FigV K H (nm b)) xs rs ∧ rs.all id = false) ∨ ∃ ns : List Int, xs = ns.map V.int ∧ rowB b ns = false)
def sp_readX (K : PySem.W.Frag) (C1 C3 : Addr) : Sp := fun vs H _ E => ∃ u v, vs = [u, v] ∧ ((BadB K H u ∧ E (.ref C1) none H) ∨ ∃ b : P2, Pa K H u b ∧ isB b = true ∧ BadR K H b v ∧ ∀ H', Same H H' → E (.ref C3) none H')
def BadN (K : PySem.W.Frag) (H : Hp) (v : V) : Prop := NoNum K H v ∨ ∃ z : Int, v = .int z ∧ z < 0
def sp_pair_byX (K : PySem.W.Frag) (C1 C4 : Addr) : Sp := fun vs H _ E => ∃ u v, vs = [u, v] ∧ ((BadB K H u ∧ E (.ref C1) none H) ∨ (GoodB K H u ∧ BadN K H v ∧ E (.ref C4) none H))
def sp_number_ofX (K : PySem.W.Frag) (CV : Addr) : Sp := fun vs H _ E => ∃ u v, vs = [u, v] ∧ ∃ (b p : P2) (m n : Nat), Pa K H u b ∧ isB b = true ∧ Pa K H v p ∧ (¬ ∃ k, Ends0 b p k) ∧ Cyc b p m n ∧ n ≤ 4900 ∧ ∀ H', Same H H' → E (.ref CV) none H'
def sp_wbase (K : PySem.W.Frag) (C1 : Addr) : Sp := fun vs H _ E => ∃ t u, vs = [t, u] ∧ ∃ d : Int, t = .int d ∧ 0 ≤ d ∧ d ≤ 6 ∧ BadB K H u ∧ ∀ H', Same H H' → E (.ref C1) none H'
def sp_wpair (K : PySem.W.Frag) (C2 CV : Addr) : Sp := fun vs H _ E => ∃ t v, vs = [t, v] ∧ ∃ (a : Addr) (d : Int) (u : V), t = .ref a ∧ SqT K H a [.int d, u] ∧ 0 ≤ d ∧ d ≤ 4 ∧ ((GoodB K H u ∧ NoPair K H v ∧ ∀ H', Same H H' → E (.ref C2) none H') ∨
  (d = 4 ∧ ∃ (b p : P2) (m n : Nat), Pa K H u b ∧ isB b = true ∧ Pa K H v p ∧ (¬ ∃ k, Ends0 b p k) ∧ Cyc b p m n ∧ n ≤ 4900 ∧ ∀ H', Same H H' → E (.ref CV) none H'))
def sp_wrow (K : PySem.W.Frag) (C3 : Addr) : Sp := fun vs H _ E => ∃ u v, vs = [u, v] ∧ ∃ b : P2, Pa K H u b ∧ isB b = true ∧ BadR K H b v ∧ ∀ H', Same H H' → E (.ref C3) none H'
def sp_wnum (K : PySem.W.Frag) (C4 : Addr) : Sp := fun vs H _ E => ∃ u v, vs = [u, v] ∧ GoodB K H u ∧ BadN K H v ∧ ∀ H', Same H H' → E (.ref C4) none H'

def sp_law (K : PySem.W.Frag) : Sp := fun vs H Q _ => ∃ u, vs = [u] ∧ ∃ (a : Addr) (ns : List Int), u = .ref a ∧ SqL K H a (ns.map V.int) ∧ ns.length ≤ 63 ∧ (∀ z ∈ ns, Builtin.Int.intBits z ≤ 1048576) ∧ ∀ H', Same H H' → Q (.bl true) H'
/-- what a list's expressions give, at these locals -/
def Giv (σ : L2.St) (Pr : Hp → V → Prop) (t : TE) : Prop := ∀ H Q, (∀ v H', Same H H' → Pr H' v → Q v H') → t σ H Q
def GivL (σ : L2.St) (Pr : Hp → V → Prop) (n : Nat) (t : TA) : Prop := ∀ H (Q : List V → Hp → Prop), (∀ vs H', Same H H' → vs.length = n → (∀ v ∈ vs, Pr H' v) → Q vs H') → t σ H Q
theorem givL_nil {σ : L2.St} {Pr : Hp → V → Prop} : GivL σ Pr 0 tNil := fun H Q k => k [] H (Same.refl _) rfl fun v hv => absurd hv List.not_mem_nil
theorem givL_cons {σ : L2.St} {Pr : Hp → V → Prop} {n : Nat} {te : TE} {ts : TA} (m : ∀ H H' v, Same H H' → Pr H v → Pr H' v) (h : Giv σ Pr te) (hs : GivL σ Pr n ts) : GivL σ Pr (n + 1) (tCons te ts) :=
  fun H Q k => h H _ fun v H1 s1 p => hs H1 _ fun vs H2 s2 l ps => k (v :: vs) H2 (s1.trans s2) (by rw [List.length_cons, l]) fun x hx => by
    rcases List.mem_cons.mp hx with rfl | hx
    · exact m _ _ _ s2 p
    · exact ps x hx
theorem giv_lst {σ : L2.St} {Pr : Hp → V → Prop} {n : Nat} {t : TA} (h : GivL σ Pr n t) (m : ∀ H H' v, Same H H' → Pr H v → Pr H' v) (hn : n ≤ 1000000) (H : Hp) (Q : VK) (k : ∀ p vs H', Same H H' → vs.length = n → (∀ v ∈ vs, Pr H' v) → H p = none → H' p = some (.lst vs) → Q (.ref p) H') : tLst t σ H Q :=
  h H _ fun vs H1 s1 l ps => ⟨small_size (by omega), fun p np => k p vs _ (s1.trans (same_upd np)) l (fun v hv => m _ _ _ (same_upd np) (ps v hv)) (s1.free np) upd_same⟩
/-- the due lists -/
def kB (j : Nat) : List Bool := [decide (j = 0), decide (j = 1), decide (j = 2), decide (j = 3), decide (j = 4), true]
def DueL (H : Hp) (d : Addr) (n : Nat) : Prop := ∃ vs, H d = some (.lst vs) ∧ vs.length = n ∧ ∀ j v, vs[j]? = some v → ∃ e, v = .ref e ∧ H e = some (.lst ((kB j).map V.bl))
theorem DueL.same {H H' : Hp} {d : Addr} {n : Nat} (s : Same H H') (h : DueL H d n) : DueL H' d n := by
  obtain ⟨vs, h1, h2, h3⟩ := h
  exact ⟨vs, s _ _ h1, h2, fun j v hv => by
    obtain ⟨e, h4, h5⟩ := h3 j v hv
    exact ⟨e, h4, s _ _ h5⟩⟩
theorem DueL.get {H : Hp} {d : Addr} {n : Nat} (h : DueL H d n) (j : Nat) (hj : j < n) : ∃ vs e, H d = some (.lst vs) ∧ vs[j]? = some (.ref e) ∧ H e = some (.lst ((kB j).map V.bl)) := by
  obtain ⟨vs, h1, h2, h3⟩ := h
  obtain ⟨e, h4, h5⟩ := h3 j vs[j] (List.getElem?_eq_getElem (by omega))
  exact ⟨vs, e, h1, by rw [List.getElem?_eq_getElem (by omega), h4], h5⟩
def bD (bs : List Bool) : PyData := .list (bs.map PyData.bool)
theorem bD_dp {K : PySem.W.Frag} {H : Hp} {a : Addr} {bs : List Bool} (h : SqL K H a (bs.map V.bl)) : Dp K H (.ref a) (bD bs) := by
  refine .lst h ?_
  clear h
  induction bs with
  | nil => exact .nil
  | cons b bs ih => exact .cons (.bl b) ih
theorem bD_shaped (j : Nat) : SeqAt.shaped (bD (kB j)) = true := by
  unfold bD kB
  simp [SeqAt.shaped, PyData.canLay0, PyData.canLayAll0, PyData.depth, PyData.depthAll]
theorem bD_eqv (j : Nat) : PyData.eqv (bD (kB j)) (bD (kB j)) = true := by
  unfold bD kB
  simp [PyData.eqv, PyData.eqvAll]
theorem all_true {α : Type} (xs : List α) : (xs.map fun _ => true).all id = true := by
  rw [List.all_map, List.all_eq_true]
  intro x _
  rfl
theorem BadB.same {K : PySem.W.Frag} {H H' : Hp} {v : V} (e : Same H H') (h : BadB K H v) : BadB K H' v := by
  rcases h with h | ⟨p, h1, h2⟩
  · exact .inl (h.same e)
  · exact .inr ⟨p, h1.same e, h2⟩
theorem BadN.same {K : PySem.W.Frag} {H H' : Hp} {v : V} (e : Same H H') (h : BadN K H v) : BadN K H' v := by
  rcases h with h | h
  · exact .inl (h.same e)
  · exact .inr h
theorem FigV.same {K : PySem.W.Frag} {H H' : Hp} {n : Int} {v : V} {r : Bool} (e : Same H H') (h : FigV K H n v r) : FigV K H' n v r := by
  rcases h with h | ⟨h, h'⟩
  · exact .inl h
  · exact .inr ⟨h.same e, h'⟩
theorem BadR.same {K : PySem.W.Frag} {H H' : Hp} {b : P2} {v : V} (e : Same H H') (h : BadR K H b v) : BadR K H' b v := by
  rcases h with ⟨t, h1, h2⟩ | ⟨a, xs, rfl, h1, h2, ⟨rs, h3, h4⟩ | h3⟩
  · exact .inl ⟨t, TyX.same e h1, h2⟩
  · exact .inr ⟨a, xs, rfl, e.seq h1, h2, .inl ⟨rs, L2.Paired.mapP h3 fun _ _ z => FigV.same e z, h4⟩⟩
  · exact .inr ⟨a, xs, rfl, e.seq h1, h2, .inr h3⟩
theorem nn_str {K : PySem.W.Frag} {H : Hp} {x : Str} : NoNum K H (.str x) := ⟨_, false, .base (.str x), kit_ty (b := "int") (by decide +kernel), fun h => nomatch h⟩
theorem nn_non {K : PySem.W.Frag} {H : Hp} : NoNum K H .non := ⟨_, false, .base .non, kit_ty (b := "int") (by decide +kernel), fun h => nomatch h⟩
theorem nn_bl {K : PySem.W.Frag} {H : Hp} {x : Bool} : NoNum K H (.bl x) := ⟨_, true, .base (.bl x), kit_ty (b := "int") (by decide +kernel), fun _ => kit_ty (by decide +kernel)⟩
theorem nn_lst {K : PySem.W.Frag} {H : Hp} {a : Addr} {xs : List V} (h : H a = some (.lst xs)) : NoNum K H (.ref a) := ⟨_, false, .base (.lst h), kit_ty (b := "int") (by decide +kernel), fun h => nomatch h⟩
theorem nn_tup {K : PySem.W.Frag} {H : Hp} {a : Addr} {xs : List V} (h : H a = some (.tup xs)) : NoNum K H (.ref a) := ⟨_, false, .base (.tup h), kit_ty (b := "int") (by decide +kernel), fun h => nomatch h⟩
theorem np_ty {K : PySem.W.Frag} {H : Hp} {v : V} {n : String} (h : TyX K H v (.type n)) (e : kitB n "tuple" = some false) : NoPair K H v := .inl ⟨_, h, kit_ty e⟩
theorem np_len {K : PySem.W.Frag} {H : Hp} {a : Addr} {xs : List V} (h : SqT K H a xs) (e : xs.length ≠ 2) : NoPair K H (.ref a) := .inr ⟨a, xs, rfl, h, .inl e⟩
theorem np_1 {K : PySem.W.Frag} {H : Hp} {a : Addr} {x y : V} (h : SqT K H a [x, y]) (e : NoNum K H x) : NoPair K H (.ref a) := .inr ⟨a, _, rfl, h, .inr ⟨x, y, rfl, .inl e⟩⟩
theorem np_2 {K : PySem.W.Frag} {H : Hp} {a : Addr} {i : Int} {y : V} (h : SqT K H a [.int i, y]) (e : NoNum K H y) : NoPair K H (.ref a) := .inr ⟨a, _, rfl, h, .inr ⟨_, y, rfl, .inr ⟨⟨i, rfl⟩, e⟩⟩⟩
theorem bb_pa {K : PySem.W.Frag} {H : Hp} {a : Addr} {x y : Int} (h : H a = some (.tup [.int x, .int y])) (e : isB (x, y) = false) : BadB K H (.ref a) := .inr ⟨(x, y), ⟨a, rfl, h⟩, e⟩
theorem isB_1 {x y : Int} (h : 31 ≤ x ∨ x ≤ -31) : isB (x, y) = false := by
  unfold isB
  rw [decide_eq_false (show ¬ x.natAbs ≤ 30 by omega)]
  simp
theorem isB_2 {x y : Int} (h : 31 ≤ y ∨ y ≤ -31) : isB (x, y) = false := by
  unfold isB
  rw [decide_eq_false (show ¬ y.natAbs ≤ 30 by omega)]
  simp
theorem nl_ty {K : PySem.W.Frag} {H : Hp} {b : P2} {v : V} {n : String} (h : TyX K H v (.type n)) (e : kitB n "list" = some false) : BadR K H b v := .inl ⟨_, h, kit_ty e⟩
/-- a list whose first figure is no number, or whose second one isn't -/
theorem br_1 {K : PySem.W.Frag} {H : Hp} {b : P2} {a : Addr} {x : V} (h : SqL K H a [x]) (e : NoNum K H x) : BadR K H b (.ref a) := .inr ⟨a, _, rfl, h, (by show 1 ≤ 1000000; decide), .inl ⟨[false], .cons (.inr ⟨e, rfl⟩) .nil, rfl⟩⟩
theorem br_2 {K : PySem.W.Frag} {H : Hp} {b : P2} {a : Addr} {x : V} {i : Int} (h : SqL K H a [x, .int i]) (e : NoNum K H x) : BadR K H b (.ref a) := .inr ⟨a, _, rfl, h, (by show 2 ≤ 1000000; decide), .inl ⟨[false, _], .cons (.inr ⟨e, rfl⟩) (.cons (.inl ⟨i, rfl, rfl⟩) .nil), rfl⟩⟩
theorem br_2' {K : PySem.W.Frag} {H : Hp} {b : P2} {a : Addr} {x : V} {i : Int} (h : SqL K H a [.int i, x]) (e : NoNum K H x) : BadR K H b (.ref a) := .inr ⟨a, _, rfl, h, (by show 2 ≤ 1000000; decide), .inl ⟨[_, false], .cons (.inl ⟨i, rfl, rfl⟩) (.cons (.inr ⟨e, rfl⟩) .nil), by simp⟩⟩
theorem br_i {K : PySem.W.Frag} {H : Hp} {b : P2} {a : Addr} {xs : List V} (ns : List Int) (h : SqL K H a xs) (e : xs = ns.map V.int) (l : ns.length ≤ 1000000) (r : ¬ rowOk b ns) : BadR K H b (.ref a) := .inr ⟨a, xs, rfl, h, by rw [e, List.length_map]; exact l, .inr ⟨ns, e, by
  cases c : rowB b ns with
  | false => rfl
  | true => exact absurd (rowB_iff.mp c) r⟩⟩

theorem okX_size {P : Program} {w : World} {K : PySem.W.Frag} {mg : Str → Option Value} {base : Heap} {f : Addr} {fd : FuncData} {C1 C2 C3 C4 CV : Addr} (F : Fun K "size" "size" s_size f fd) (T : Txt K mg) (hx_need_base : HasX P w K mg base "need_base" 4 ["thing"] (sp_need_baseX K C1)) : FnOk P w K mg base (L2N.CX P w) 5 f fd ["base"] (sp_refB K C1) := by
  refine okN F sc_size (fun vs H Q E h => ?_) (fun cdv A outer s H vs Q E hr h => ?_)
  · obtain ⟨_, rfl, _⟩ := h; rfl
  · obtain ⟨u, rfl, hb, e⟩ := h
    refine ⟨_, (pss_cons (ps_expr (pe_HX (L2N.takes_of rfl rfl rfl rfl) hx_need_base (hr.mono (by decide)) (by rfl) (pa_cons (pv 0) pa_nil)))
      pss_dead), ?_⟩
    walk_at "rd"
    exact ⟨_, rfl, _, rfl, .inl ⟨hb, e⟩⟩

theorem okX_tells_all {P : Program} {w : World} {K : PySem.W.Frag} {mg : Str → Option Value} {base : Heap} {f : Addr} {fd : FuncData} {C1 C2 C3 C4 CV : Addr} (F : Fun K "tells_all" "tells_all" s_tells_all f fd) (T : Txt K mg) (hx_need_base : HasX P w K mg base "need_base" 4 ["thing"] (sp_need_baseX K C1)) : FnOk P w K mg base (L2N.CX P w) 5 f fd ["base"] (sp_refB K C1) := by
  refine okN F sc_tells_all (fun vs H Q E h => ?_) (fun cdv A outer s H vs Q E hr h => ?_)
  · obtain ⟨_, rfl, _⟩ := h; rfl
  · obtain ⟨u, rfl, hb, e⟩ := h
    refine ⟨_, (pss_cons (ps_expr (pe_HX (L2N.takes_of rfl rfl rfl rfl) hx_need_base (hr.mono (by decide)) (by rfl) (pa_cons (pv 0) pa_nil)))
      pss_dead), ?_⟩
    walk_at "rd"
    exact ⟨_, rfl, _, rfl, .inl ⟨hb, e⟩⟩

theorem okX_times {P : Program} {w : World} {K : PySem.W.Frag} {mg : Str → Option Value} {base : Heap} {f : Addr} {fd : FuncData} {C1 C2 C3 C4 CV : Addr} (F : Fun K "times" "times" s_times f fd) (T : Txt K mg) (hx_need_pair : HasX P w K mg base "need_pair" 3 ["thing"] (sp_need_pairX K C2)) : FnOk P w K mg base (L2N.CX P w) 4 f fd ["one", "other"] (sp_timesX K C2) := by
  refine okN F sc_times (fun vs H Q E h => ?_) (fun cdv A outer s H vs Q E hr h => ?_)
  · obtain ⟨_, _, rfl, _⟩ := h; rfl
  · obtain ⟨u, v, rfl, h, e⟩ := h
    refine ⟨_, (pss_cons (ps_expr (pe_HX (L2N.takes_of rfl rfl rfl rfl) hx_need_pair (hr.mono (by decide)) (by rfl) (pa_cons (pv 0) pa_nil)))
      (pss_cons (ps_expr (pe_HX (L2N.takes_of rfl rfl rfl rfl) hx_need_pair (hr.mono (by decide)) (by rfl) (pa_cons (pv 1) pa_nil)))
      pss_dead)), ?_⟩
    walk_at "rd"
    rcases h with np | ⟨⟨p, hp⟩, np⟩
    · exact ⟨_, rfl, _, rfl, .inl ⟨.inr ⟨rfl, np⟩, e⟩⟩
    · exact ⟨_, rfl, _, rfl, .inr ⟨p, hp, _, rfl, _, rfl, .inl ⟨.inr ⟨rfl, np⟩, e⟩⟩⟩

theorem okX_step {P : Program} {w : World} {K : PySem.W.Frag} {mg : Str → Option Value} {base : Heap} {f : Addr} {fd : FuncData} {C1 C2 C3 C4 CV : Addr} (F : Fun K "step" "step" s_step f fd) (T : Txt K mg) (hx_need_base : HasX P w K mg base "need_base" 4 ["thing"] (sp_need_baseX K C1)) (hx_need_pair : HasX P w K mg base "need_pair" 3 ["thing"] (sp_need_pairX K C2)) : FnOk P w K mg base (L2N.CX P w) 5 f fd ["base", "pair"] (sp_twoX K C1 C2) := by
  refine okN F sc_step (fun vs H Q E h => ?_) (fun cdv A outer s H vs Q E hr h => ?_)
  · obtain ⟨_, _, rfl, _⟩ := h; rfl
  · obtain ⟨u, v, rfl, h⟩ := h
    refine ⟨_, (pss_cons (ps_expr (pe_HX (L2N.takes_of rfl rfl rfl rfl) hx_need_base (hr.mono (by decide)) (by rfl) (pa_cons (pv 0) pa_nil)))
      (pss_cons (ps_expr (pe_HX (L2N.takes_of rfl rfl rfl rfl) hx_need_pair (hr.mono (by decide)) (by rfl) (pa_cons (pv 1) pa_nil)))
      pss_dead)), ?_⟩
    walk_at "rd"
    rcases h with ⟨hb, e⟩ | ⟨⟨b, hu, hb⟩, np, e⟩
    · exact ⟨_, rfl, _, rfl, .inl ⟨hb, e⟩⟩
    · exact ⟨_, rfl, _, rfl, .inr ⟨b, hu, hb, _, rfl, _, rfl, .inl ⟨.inr ⟨rfl, np⟩, e⟩⟩⟩

theorem okX_told {P : Program} {w : World} {K : PySem.W.Frag} {mg : Str → Option Value} {base : Heap} {f : Addr} {fd : FuncData} {C1 C2 C3 C4 CV : Addr} (F : Fun K "told" "told" s_told f fd) (T : Txt K mg) (hx_need_base : HasX P w K mg base "need_base" 4 ["thing"] (sp_need_baseX K C1)) (hx_need_pair : HasX P w K mg base "need_pair" 3 ["thing"] (sp_need_pairX K C2)) : FnOk P w K mg base (L2N.CX P w) 8 f fd ["base", "pair"] (sp_twoX K C1 C2) := by
  refine okN F sc_told (fun vs H Q E h => ?_) (fun cdv A outer s H vs Q E hr h => ?_)
  · obtain ⟨_, _, rfl, _⟩ := h; rfl
  · obtain ⟨u, v, rfl, h⟩ := h
    refine ⟨_, (pss_cons (ps_expr (pe_HX (L2N.takes_of rfl rfl rfl rfl) hx_need_base (hr.mono (by decide)) (by rfl) (pa_cons (pv 0) pa_nil)))
      (pss_cons (ps_expr (pe_HX (L2N.takes_of rfl rfl rfl rfl) hx_need_pair (hr.mono (by decide)) (by rfl) (pa_cons (pv 1) pa_nil)))
      pss_dead)), ?_⟩
    walk_at "rd"
    rcases h with ⟨hb, e⟩ | ⟨⟨b, hu, hb⟩, np, e⟩
    · exact ⟨_, rfl, _, rfl, .inl ⟨hb, e⟩⟩
    · exact ⟨_, rfl, _, rfl, .inr ⟨b, hu, hb, _, rfl, _, rfl, .inl ⟨.inr ⟨rfl, np⟩, e⟩⟩⟩

theorem okX_read {P : Program} {w : World} {K : PySem.W.Frag} {mg : Str → Option Value} {base : Heap} {f : Addr} {fd : FuncData} {C1 C2 C3 C4 CV : Addr} (F : Fun K "read" "read" s_read f fd) (T : Txt K mg) (hx_need_base : HasX P w K mg base "need_base" 4 ["thing"] (sp_need_baseX K C1)) (h_is_row : Has P w K mg base "is_row" 6 ["base", "thing"] (sp_is_row K)) (N : Cs mg C1 C2 C3 C4 CV) (X3 : ExK K C3) : FnOk P w K mg base (L2N.CX P w) 7 f fd ["base", "row"] (sp_readX K C1 C3) := by
  refine okN F sc_read (fun vs H Q E h => ?_) (fun cdv A outer s H vs Q E hr h => ?_)
  · obtain ⟨_, _, rfl, _⟩ := h; rfl
  · obtain ⟨u, v, rfl, h⟩ := h
    have g_BadRow := N.g3
    refine ⟨_, (pss_cons (ps_expr (pe_HX (L2N.takes_of rfl rfl rfl rfl) hx_need_base (hr.mono (by decide)) (by rfl) (pa_cons (pv 0) pa_nil)))
      (pss_cons (ps_if (pt_not (pt_val (pe_H h_is_row (hr.mono (by decide)) (by rfl) (pa_cons (pv 0) (pa_cons (pv 1) pa_nil))))) (pss_one (L2N.ps_raise rfl (L2N.takes_of rfl rfl rfl rfl) (L2N.pmk_own PySem.F.excBase_ValueError X3.x g_BadRow X3.k (raises_own X3.b X3.t) rfl))) pss_nil)
      pss_dead)), ?_⟩
    walk_at "rd"
    rcases h with ⟨hb, e⟩ | ⟨b, hu, hb, br, e⟩
    · exact ⟨_, rfl, _, rfl, .inl ⟨hb, e⟩⟩
    · refine ⟨_, rfl, _, rfl, .inr ⟨b, hu, hb, ?_⟩⟩
      walk_at "rd"
      refine ⟨_, _, rfl, b, hu, hb, ?_⟩
      rcases br with nl | ⟨a, xs, rfl, hl, hz, ⟨rs, hp, hr2⟩ | ⟨ns, rfl, hr2⟩⟩
      · exact .inl ⟨nl, _, rfl, ifT rfl (e _ (Same.refl _))⟩
      · exact .inr ⟨a, xs, rs, rfl, hl, hz, hp, .inl ⟨hr2, fun H' s' => ⟨_, rfl, ifT rfl (e _ s')⟩⟩⟩
      · refine .inr ⟨a, _, _, rfl, hl, hz, figs_ints ns, ?_⟩
        cases c : (ns.map fun i => decide (0 ≤ i) && decide (i < nm b)).all id with
        | false => exact .inl ⟨rfl, fun H' s' => ⟨_, rfl, ifT rfl (e _ s')⟩⟩
        | true => exact .inr ⟨rfl, ns, rfl, fun H' s' => ⟨_, rfl, by rw [hr2]; exact ifT rfl (e _ s')⟩⟩

abbrev s_all_told : Stmt := top 40
theorem sc_all_told : FnScope ["base"] ["base"] (defScope s_all_told) := ⟨rfl, rfl, rfl, by decide +kernel, rfl, by decide +kernel, by decide +kernel⟩
theorem okX_all_told {P : Program} {w : World} {K : PySem.W.Frag} {mg : Str → Option Value} {base : Heap} {f : Addr} {fd : FuncData} {C1 C2 C3 C4 CV : Addr} (F : Fun K "all_told" "all_told" s_all_told f fd) (T : Txt K mg) (hx_tells_all : HasX P w K mg base "tells_all" 5 ["base"] (sp_refB K C1)) : FnOk P w K mg base (L2N.CX P w) 6 f fd ["base"] (sp_refB K C1) := by
  refine okN F sc_all_told (fun vs H Q E h => ?_) (fun cdv A outer s H vs Q E hr h => ?_)
  · obtain ⟨_, rfl, _⟩ := h; rfl
  · obtain ⟨u, rfl, hb, e⟩ := h
    refine ⟨_, (pss_cons (ps_if (pt_val (pe_HX (L2N.takes_of rfl rfl rfl rfl) hx_tells_all (hr.mono (by decide)) (by rfl) (pa_cons (pv 0) pa_nil))) (pss_one L2.ps_never) pss_nil)
      pss_dead), ?_⟩
    walk_at "rd"
    exact ⟨_, rfl, _, rfl, hb, e⟩

theorem okX_pair_by {P : Program} {w : World} {K : PySem.W.Frag} {mg : Str → Option Value} {base : Heap} {f : Addr} {fd : FuncData} {C1 C2 C3 C4 CV : Addr} (F : Fun K "pair_by" "pair_by" s_pair_by f fd) (T : Txt K mg) (hx_size : HasX P w K mg base "size" 5 ["base"] (sp_sizeX K C1)) (h_is_number : Has P w K mg base "is_number" 1 ["thing"] (sp_is_number K)) (N : Cs mg C1 C2 C3 C4 CV) (X4 : ExK K C4) : FnOk P w K mg base (L2N.CX P w) 8 f fd ["base", "number"] (sp_pair_byX K C1 C4) := by
  refine okN F sc_pair_by (fun vs H Q E h => ?_) (fun cdv A outer s H vs Q E hr h => ?_)
  · obtain ⟨_, _, rfl, _⟩ := h; rfl
  · obtain ⟨u, v, rfl, h⟩ := h
    have g_BadNumber := N.g4
    refine ⟨_, (pss_cons (ps_set (i := 2) sc_pair_by.nd rfl (Or.inl rfl) (pe_HX (L2N.takes_of rfl rfl rfl rfl) hx_size (hr.mono (by decide)) (by rfl) (pa_cons (pv 0) pa_nil)))
      (pss_cons (ps_if (PW.pt (pw_or (pt_not (pt_val (pe_H h_is_number (hr.mono (by decide)) (by rfl) (pa_cons (pv 1) pa_nil)))) (pw_or1 (pt_cmpR op_lt (pv 1) pe_int (nomark _))))) (pss_one (L2N.ps_raise rfl (L2N.takes_of rfl rfl rfl rfl) (L2N.pmk_own PySem.F.excBase_ValueError X4.x g_BadNumber X4.k (raises_own X4.b X4.t) rfl))) pss_nil)
      pss_dead)), ?_⟩
    walk_at "rd"
    rcases h with ⟨hb, e⟩ | ⟨⟨b, hu, hb⟩, bn, e⟩
    · exact ⟨_, rfl, .inl ⟨_, rfl, hb, e⟩⟩
    · refine ⟨_, rfl, .inr ⟨_, rfl, b, hu, hb, _, rfl, ?_⟩⟩
      rcases bn with nn | ⟨z, rfl, hz⟩
      · exact .inr ⟨nn, _, rfl, ifT rfl e⟩
      · exact .inl ⟨z, rfl, _, rfl, ifF rfl ⟨z, rfl, ifT (decide_eq_true hz) e⟩⟩

abbrev s_number_of : Stmt := top 43
theorem sc_number_of : FnScope ["base", "pair", "answer", "many", "number", "figure"] ["base", "pair"] (defScope s_number_of) := ⟨rfl, rfl, rfl, by decide +kernel, rfl, by decide +kernel, by decide +kernel⟩
theorem okX_number_of {P : Program} {w : World} {K : PySem.W.Frag} {mg : Str → Option Value} {base : Heap} {f : Addr} {fd : FuncData} {C1 C2 C3 C4 CV : Addr} (F : Fun K "number_of" "number_of" s_number_of f fd) (T : Txt K mg) (hx_told : HasX P w K mg base "told" 8 ["base", "pair"] (sp_twoX K C1 C2)) : FnOk P w K mg base (L2N.CX P w) 9 f fd ["base", "pair"] (sp_twoX K C1 C2) := by
  refine okN F sc_number_of (fun vs H Q E h => ?_) (fun cdv A outer s H vs Q E hr h => ?_)
  · obtain ⟨_, _, rfl, _⟩ := h; rfl
  · obtain ⟨u, v, rfl, h⟩ := h
    refine ⟨_, (pss_cons (ps_set (i := 2) sc_number_of.nd rfl (Or.inl rfl) (pe_HX (L2N.takes_of rfl rfl rfl rfl) hx_told (hr.mono (by decide)) (by rfl) (pa_cons (pv 0) (pa_cons (pv 1) pa_nil))))
      pss_dead), ?_⟩
    walk_at "rd"
    rcases h with ⟨hb, e⟩ | ⟨hu, np, e⟩
    · exact ⟨_, rfl, _, rfl, _, _, rfl, .inl ⟨hb, e⟩⟩
    · exact ⟨_, rfl, _, rfl, _, _, rfl, .inr ⟨hu, np, e⟩⟩

theorem okX_number_ofV {P : Program} {w : World} {K : PySem.W.Frag} {mg : Str → Option Value} {base : Heap} {f : Addr} {fd : FuncData} {C1 C2 C3 C4 CV : Addr} {CT CR : Addr} (F : Fun K "number_of" "number_of" s_number_of f fd) (T : Txt K mg) (h_told : Has P w K mg base "told" 8 ["base", "pair"] (sp_told K CT CR)) (cfCR : CF K mg "Round" CR) (XV : ExK K CV) (N : Cs mg C1 C2 C3 C4 CV) : FnOk P w K mg base (L2N.CX P w) 9 f fd ["base", "pair"] (sp_number_ofX K CV) := by
  refine okN F sc_number_of (fun vs H Q E h => ?_) (fun cdv A outer s H vs Q E hr h => ?_)
  · obtain ⟨_, _, rfl, _⟩ := h; rfl
  · obtain ⟨u, v, rfl, b, p, m, n, hu, hb, hv, no, hc, hn, q⟩ := h
    have g_Round := cfCR.gC
    have g_Never := N.g5
    refine ⟨_, (pss_cons (ps_set (i := 2) sc_number_of.nd rfl (Or.inl rfl) (pe_H h_told (hr.mono (by decide)) (by rfl) (pa_cons (pv 0) (pa_cons (pv 1) pa_nil))))
      (pss_cons (ps_if (pt_val (pe_callB call_isN (by rfl) T.z_isinstance (by decide +kernel) (pa_cons (pv 2) (pa_cons (pe_glob (by rfl) g_Round (show RelV (.ref CR) _ from rfl)) pa_nil)))) (pss_one (L2N.ps_raise rfl (L2N.takes_of rfl rfl rfl rfl) (L2N.pmk_own PySem.F.excBase_ValueError XV.x g_Never XV.k (raises_own XV.b XV.t) rfl))) pss_nil)
      pss_dead)), ?_⟩
    walk_at "rd"
    refine ⟨_, _, rfl, b, p, hu, hb, hv, m, n, hc, hn, fun k hk => absurd ⟨k, hk⟩ no, fun _ x xs H1 s1 hx _ => ?_⟩
    obtain ⟨_, dx, l, _, h1, _⟩ := hx
    exact ⟨_, cfCR.tyx h1, true, kit_cl_self, ifT rfl (q _ s1)⟩

abbrev s__law_with_base : Stmt := top 52
theorem sc__law_with_base : FnScope ["_law_door", "_law_base_here"] ["_law_door", "_law_base_here"] (defScope s__law_with_base) := ⟨rfl, rfl, rfl, by decide +kernel, rfl, by decide +kernel, by decide +kernel⟩
theorem okX__law_with_base {P : Program} {w : World} {K : PySem.W.Frag} {mg : Str → Option Value} {base : Heap} {f : Addr} {fd : FuncData} {C1 C2 C3 C4 CV : Addr} (F : Fun K "_law_with_base" "_law_with_base" s__law_with_base f fd) (T : Txt K mg) (hx_size : HasX P w K mg base "size" 5 ["base"] (sp_sizeX K C1)) (hx_step : HasX P w K mg base "step" 5 ["base", "pair"] (sp_twoX K C1 C2)) (hx_read : HasX P w K mg base "read" 7 ["base", "row"] (sp_readX K C1 C3)) (hx_told : HasX P w K mg base "told" 8 ["base", "pair"] (sp_twoX K C1 C2)) (hx_all_told : HasX P w K mg base "all_told" 6 ["base"] (sp_refB K C1)) (hx_pair_by : HasX P w K mg base "pair_by" 8 ["base", "number"] (sp_pair_byX K C1 C4)) (hx_number_of : HasX P w K mg base "number_of" 9 ["base", "pair"] (fun vs H Q E => sp_twoX K C1 C2 vs H Q E ∨ sp_number_ofX K CV vs H Q E)) : FnOk P w K mg base (L2N.CX P w) 10 f fd ["_law_door", "_law_base_here"] (sp_wbase K C1) := by
  refine okN F sc__law_with_base (fun vs H Q E h => ?_) (fun cdv A outer s H vs Q E hr h => ?_)
  · obtain ⟨_, _, rfl, _⟩ := h; rfl
  · obtain ⟨t, u, rfl, d, rfl, d0, d6, hb, e⟩ := h
    refine ⟨_, (pss_cons (ps_if (pt_cmpR op_lt (pv 0) pe_int (nomark _)) (pss_one (ps_ret (pe_ifExp (pt_cmpR op_eq (pv 0) pe_int (nomark _)) (pe_HX (L2N.takes_of rfl rfl rfl rfl) hx_size (hr.mono (by decide)) (by rfl) (pa_cons (pv 1) pa_nil)) (pe_ifExp (pt_cmpR op_eq (pv 0) pe_int (nomark _)) (pe_HX (L2N.takes_of rfl rfl rfl rfl) hx_step (hr.mono (by decide)) (by rfl) (pa_cons (pv 1) (pa_cons pe_non pa_nil))) (pe_HX (L2N.takes_of rfl rfl rfl rfl) hx_read (hr.mono (by decide)) (by rfl) (pa_cons (pv 1) (pa_cons pe_non pa_nil))))))) pss_nil)
      (pss_cons (ps_if (pt_cmpR op_lt (pv 0) pe_int (nomark _)) (pss_one (ps_ret (pe_ifExp (pt_cmpR op_eq (pv 0) pe_int (nomark _)) (pe_HX (L2N.takes_of rfl rfl rfl rfl) hx_told (hr.mono (by decide)) (by rfl) (pa_cons (pv 1) (pa_cons pe_non pa_nil))) (pe_HX (L2N.takes_of rfl rfl rfl rfl) hx_all_told (hr.mono (by decide)) (by rfl) (pa_cons (pv 1) pa_nil))))) pss_nil)
      (pss_one (ps_ret (pe_ifExp (pt_cmpR op_eq (pv 0) pe_int (nomark _)) (pe_HX (L2N.takes_of rfl rfl rfl rfl) hx_pair_by (hr.mono (by decide)) (by rfl) (pa_cons (pv 1) (pa_cons (pe_un un_neg pe_int) pa_nil))) (pe_HX (L2N.takes_of rfl rfl rfl rfl) hx_number_of (hr.mono (by decide)) (by rfl) (pa_cons (pv 1) (pa_cons pe_non pa_nil)))))))), ?_⟩
    walk_at "rd"
    have e0 := e _ (Same.refl _)
    rcases (show d = 0 ∨ d = 1 ∨ d = 2 ∨ d = 3 ∨ d = 4 ∨ d = 5 ∨ d = 6 by omega) with rfl | rfl | rfl | rfl | rfl | rfl | rfl
    · exact ifT rfl (ifT rfl ⟨_, rfl, .inl ⟨_, rfl, hb, e0⟩⟩)
    · exact ifT rfl (ifF rfl (ifT rfl ⟨_, rfl, _, _, rfl, .inl ⟨hb, e0⟩⟩))
    · exact ifT rfl (ifF rfl (ifF rfl ⟨_, rfl, _, _, rfl, .inl ⟨hb, e0⟩⟩))
    · exact ifF rfl (ifT rfl (ifT rfl ⟨_, rfl, _, _, rfl, .inl ⟨hb, e0⟩⟩))
    · exact ifF rfl (ifT rfl (ifF rfl ⟨_, rfl, _, rfl, hb, e0⟩))
    · exact ifF rfl (ifF rfl (ifT rfl ⟨_, rfl, _, rfl, _, _, rfl, .inl ⟨hb, e0⟩⟩))
    · exact ifF rfl (ifF rfl (ifF rfl ⟨_, rfl, .inl ⟨_, _, rfl, .inl ⟨hb, e0⟩⟩⟩))

abbrev s__law_with_pair : Stmt := top 53
theorem sc__law_with_pair : FnScope ["_law_where", "_law_pair", "_law_door", "_law_base_here"] ["_law_where", "_law_pair"] (defScope s__law_with_pair) := ⟨rfl, rfl, rfl, by decide +kernel, rfl, by decide +kernel, by decide +kernel⟩
theorem okX__law_with_pair {P : Program} {w : World} {K : PySem.W.Frag} {mg : Str → Option Value} {base : Heap} {f : Addr} {fd : FuncData} {C1 C2 C3 C4 CV : Addr} (F : Fun K "_law_with_pair" "_law_with_pair" s__law_with_pair f fd) (T : Txt K mg) (hx_times : HasX P w K mg base "times" 4 ["one", "other"] (sp_timesX K C2)) (hx_step : HasX P w K mg base "step" 5 ["base", "pair"] (sp_twoX K C1 C2)) (hx_told : HasX P w K mg base "told" 8 ["base", "pair"] (sp_twoX K C1 C2)) (hx_number_of : HasX P w K mg base "number_of" 9 ["base", "pair"] (fun vs H Q E => sp_twoX K C1 C2 vs H Q E ∨ sp_number_ofX K CV vs H Q E)) : FnOk P w K mg base (L2N.CX P w) 10 f fd ["_law_where", "_law_pair"] (sp_wpair K C2 CV) := by
  refine okN F sc__law_with_pair (fun vs H Q E h => ?_) (fun cdv A outer s H vs Q E hr h => ?_)
  · obtain ⟨_, _, rfl, _⟩ := h; rfl
  · obtain ⟨t, v, rfl, a, d, u, rfl, ht, d0, d4, h⟩ := h
    refine ⟨_, (pss_cons (ps_asg (pv 0) (pg_2 (pg_tup rfl (pgs_cons (pg_name (i := 2) sc__law_with_pair.nd rfl (Or.inl rfl)) (pgs_cons (pg_name (i := 3) sc__law_with_pair.nd rfl (Or.inl rfl)) pgs_nil)))))
      (pss_cons (ps_if (pt_cmpR op_lt (pv 2) pe_int (nomark _)) (pss_one (ps_ret (pe_ifExp (pt_cmpR op_eq (pv 2) pe_int (nomark _)) (pe_HX (L2N.takes_of rfl rfl rfl rfl) hx_times (hr.mono (by decide)) (by rfl) (pa_cons (pv 1) (pa_cons (pe_tup (pa_cons pe_int (pa_cons pe_int pa_nil))) pa_nil))) (pe_HX (L2N.takes_of rfl rfl rfl rfl) hx_times (hr.mono (by decide)) (by rfl) (pa_cons (pe_tup (pa_cons pe_int (pa_cons pe_int pa_nil))) (pa_cons (pv 1) pa_nil)))))) pss_nil)
      (pss_one (ps_ret (pe_ifExp (pt_cmpR op_eq (pv 2) pe_int (nomark _)) (pe_HX (L2N.takes_of rfl rfl rfl rfl) hx_step (hr.mono (by decide)) (by rfl) (pa_cons (pv 3) (pa_cons (pv 1) pa_nil))) (pe_ifExp (pt_cmpR op_eq (pv 2) pe_int (nomark _)) (pe_HX (L2N.takes_of rfl rfl rfl rfl) hx_told (hr.mono (by decide)) (by rfl) (pa_cons (pv 3) (pa_cons (pv 1) pa_nil))) (pe_HX (L2N.takes_of rfl rfl rfl rfl) hx_number_of (hr.mono (by decide)) (by rfl) (pa_cons (pv 3) (pa_cons (pv 1) pa_nil))))))))), ?_⟩
    walk_at "rd"
    refine ⟨_, _, ht, _, rfl, ?_⟩
    have sz : (2 : Nat) ≤ sizeLine := small_size (by decide)
    have one : ∀ (p : Addr), H p = none → ∃ q, Pa K (upd H p (.tup [V.int 1, V.int 1])) (.ref p) q := fun p hp => ⟨_, Pa.new⟩
    rcases h with ⟨hu, np, e⟩ | ⟨rfl, b, p, m, n, hu, hb, hv, no, hc, hn, e⟩
    · have e0 := e _ (Same.refl _)
      rcases (show d = 0 ∨ d = 1 ∨ d = 2 ∨ d = 3 ∨ d = 4 by omega) with rfl | rfl | rfl | rfl | rfl
      · refine ifT rfl ⟨rfl, ifT rfl ⟨_, rfl, sz, fun p hp => ?_⟩⟩
        have s1 := same_upd (o := .tup [V.int 1, V.int 1]) hp
        exact ⟨_, _, rfl, .inl (np.same s1), e _ s1⟩
      · refine ifT rfl ⟨rfl, ifF rfl ⟨sz, fun p hp => ⟨_, rfl, ?_⟩⟩⟩
        have s1 := same_upd (o := .tup [V.int 1, V.int 1]) hp
        exact ⟨_, _, rfl, .inr ⟨one p hp, np.same s1⟩, e _ s1⟩
      · exact ifF rfl ⟨rfl, ifT rfl ⟨_, rfl, _, rfl, _, _, rfl, .inr ⟨hu, np, e0⟩⟩⟩
      · exact ifF rfl ⟨rfl, ifF rfl ⟨rfl, ifT rfl ⟨_, rfl, _, rfl, _, _, rfl, .inr ⟨hu, np, e0⟩⟩⟩⟩
      · exact ifF rfl ⟨rfl, ifF rfl ⟨rfl, ifF rfl ⟨_, rfl, _, rfl, .inl ⟨_, _, rfl, .inr ⟨hu, np, e0⟩⟩⟩⟩⟩
    · exact ifF rfl ⟨rfl, ifF rfl ⟨rfl, ifF rfl ⟨_, rfl, _, rfl, .inr ⟨_, _, rfl, b, p, m, n, hu, hb, hv, no, hc, hn, e⟩⟩⟩⟩

abbrev s__law_with_row : Stmt := top 54
theorem sc__law_with_row : FnScope ["_law_base_here", "_law_row"] ["_law_base_here", "_law_row"] (defScope s__law_with_row) := ⟨rfl, rfl, rfl, by decide +kernel, rfl, by decide +kernel, by decide +kernel⟩
theorem okX__law_with_row {P : Program} {w : World} {K : PySem.W.Frag} {mg : Str → Option Value} {base : Heap} {f : Addr} {fd : FuncData} {C1 C2 C3 C4 CV : Addr} (F : Fun K "_law_with_row" "_law_with_row" s__law_with_row f fd) (T : Txt K mg) (hx_read : HasX P w K mg base "read" 7 ["base", "row"] (sp_readX K C1 C3)) : FnOk P w K mg base (L2N.CX P w) 10 f fd ["_law_base_here", "_law_row"] (sp_wrow K C3) := by
  refine okN F sc__law_with_row (fun vs H Q E h => ?_) (fun cdv A outer s H vs Q E hr h => ?_)
  · obtain ⟨_, _, rfl, _⟩ := h; rfl
  · obtain ⟨u, v, rfl, b, hu, hb, br, e⟩ := h
    refine ⟨_, (pss_one (ps_ret (pe_HX (L2N.takes_of rfl rfl rfl rfl) hx_read (hr.mono (by decide)) (by rfl) (pa_cons (pv 0) (pa_cons (pv 1) pa_nil))))), ?_⟩
    walk_at "rd"
    exact ⟨_, rfl, _, rfl, _, _, rfl, .inr ⟨b, hu, hb, br, e⟩⟩

abbrev s__law_with_number : Stmt := top 55
theorem sc__law_with_number : FnScope ["_law_base_here", "_law_number"] ["_law_base_here", "_law_number"] (defScope s__law_with_number) := ⟨rfl, rfl, rfl, by decide +kernel, rfl, by decide +kernel, by decide +kernel⟩
theorem okX__law_with_number {P : Program} {w : World} {K : PySem.W.Frag} {mg : Str → Option Value} {base : Heap} {f : Addr} {fd : FuncData} {C1 C2 C3 C4 CV : Addr} (F : Fun K "_law_with_number" "_law_with_number" s__law_with_number f fd) (T : Txt K mg) (hx_pair_by : HasX P w K mg base "pair_by" 8 ["base", "number"] (sp_pair_byX K C1 C4)) : FnOk P w K mg base (L2N.CX P w) 10 f fd ["_law_base_here", "_law_number"] (sp_wnum K C4) := by
  refine okN F sc__law_with_number (fun vs H Q E h => ?_) (fun cdv A outer s H vs Q E hr h => ?_)
  · obtain ⟨_, _, rfl, _⟩ := h; rfl
  · obtain ⟨u, v, rfl, hu, bn, e⟩ := h
    refine ⟨_, (pss_one (ps_ret (pe_HX (L2N.takes_of rfl rfl rfl rfl) hx_pair_by (hr.mono (by decide)) (by rfl) (pa_cons (pv 0) (pa_cons (pv 1) pa_nil))))), ?_⟩
    walk_at "rd"
    exact ⟨_, rfl, _, rfl, _, _, rfl, .inr ⟨hu, bn, e _ (Same.refl _)⟩⟩

section
variable {P : Program} {w : World} {K : PySem.W.Frag} {mg : Str → Option Value} {base : Heap}
end
end Pb
set_option Elab.async false
set_option linter.all false
set_option maxRecDepth 100000
set_option maxHeartbeats 4000000
namespace Pb
open PySem PySem.Spec PyProof.Rows L2
local macro_rules | `(tactic| walk_at "rd") => `(tactic| try simp only [L2.tSeq, L2.tRet, L2.tDrop, L2.tIfS, L2.tAsg, L2.gName, gT2, L2.tPar, L2.tTest, L2.tOp, L2.tUn, L2.tCB, L2.tCons, L2.tNil, L2.tNext, L2.tVar, L2.tC, tH, L2.tAnd, L2.tOr, L2.tNot, L2.tAndV, L2.tOrV, L2.tNotV, L2.tIf, L2.tB, L2.rI, L2.rI0, L2.rU, L2.rEq, L2.rNe, rIsN, L2.rGcd, L2.scal, L2.rIxT, L2.rIxL, L2.tTup, L2.tLst, L2.tChain, L2.tBM, L2.rAppend, L2.tSl, L2.tPart, L2.tNoPart, L2.rSlL, L2.rCat, tHmC, tHi, L2.tFld, L2.sFld, L2.tRevL, L2.rPopAt, L2.sDPut, L2.tDGet, L2.tDNotIn, L2.tDNewT, L2.start, L2.wipe, L2.cxOf, L2.Cx.nox, List.length_cons, List.length_nil, List.map_cons, List.map_nil, List.cons_append, List.nil_append, List.append_nil, List.getElem?_cons_zero, List.getElem?_cons_succ, List.set_cons_zero, List.set_cons_succ, List.replicate_succ, List.replicate_zero, Nat.reduceAdd, Nat.reduceSub, Nat.zero_add, Nat.add_zero, Nat.sub_self, Option.some.injEq, exists_eq_left', exists_eq_left, exists_and_left, List.cons.injEq, true_and, and_true, and_assoc, L2.V.bl.injEq, L2.V.int.injEq, L2.V.ref.injEq, if_true, if_false, Bool.false_eq_true, decide_true, decide_false, Bool.not_true, Bool.not_false, reduceCtorEq])

/-- what the law leans on -/
structure Due (K : PySem.W.Frag) (C1 C2 C3 C4 CV CB : Addr) : Prop where
  k1 : Kinds K C1 C1 C2 C3 C4 CV true false false false false
  k2 : Kinds K C2 C1 C2 C3 C4 CV false true false false false
  k3 : Kinds K C3 C1 C2 C3 C4 CV false false true false false
  k4 : Kinds K C4 C1 C2 C3 C4 CV false false false true false
  k5 : Kinds K CV C1 C2 C3 C4 CV false false false false true
  e1 : PySem.W.exmOne K (.ref C1) (.ref CB) = some true
  e2 : PySem.W.exmOne K (.ref C2) (.ref CB) = some true
  e3 : PySem.W.exmOne K (.ref C3) (.ref CB) = some true
  e4 : PySem.W.exmOne K (.ref C4) (.ref CB) = some true
  e5 : PySem.W.exmOne K (.ref CV) (.ref CB) = some true
theorem kit_bt {K : PySem.W.Frag} {D : Addr} {T : String} {b : Bool} (m : PySem.W.kitMeta T = true) (s : PySem.W.subIn K (.ref D) (.type T) = some b) : PySem.W.kitOne K (.ref D) (.type T) = some b := by
  have n' : ¬ (Value.ref D == Value.type T) = true := fun z => by
    have e : Value.ref D = Value.type T := eq_of_beq z
    cases e
  unfold PySem.W.kitOne
  rw [if_neg n']
  show (if PySem.W.kitMeta T = true then PySem.W.subIn K (.ref D) (.type T) else none) = some b
  rw [if_pos m]
  exact s
theorem due_at {K : PySem.W.Frag} {H1 H' : Hp} {d r : Addr} {j : Nat} (hj : j < 5) (hd : DueL H1 d 5) (s : Same H1 H') (hl : SqL K H' r ((kB j).map V.bl)) : ∃ xs x2, SqL K H' d xs ∧ atI xs ((j : Nat) : Int) = some x2 ∧ Dp K H' (.ref r) (bD (kB j)) ∧ Dp K H' x2 (bD (kB j)) := by
  obtain ⟨vs, e, h1, h2, h3⟩ := (hd.same s).get j hj
  exact ⟨vs, .ref e, SqL.of h1, atI_nat h2, bD_dp hl, bD_dp (SqL.of h3)⟩
theorem due_eq {K : PySem.W.Frag} {H1 H' : Hp} {d r : Addr} (j : Nat) {R : VK} (hj : j < 5) (hd : DueL H1 d 5) (s : Same H1 H') (hl : SqL K H' r ((kB j).map V.bl)) (hR : R (.bl true) H') : ∃ xs, SqL K H' d xs ∧ ∃ x2, atI xs ((j : Nat) : Int) = some x2 ∧ rEqD K (.ref r) x2 H' R := by
  obtain ⟨xs, x2, h1, h2, h3, h4⟩ := due_at hj hd s hl
  refine ⟨xs, h1, x2, h2, _, _, h3, h4, bD_shaped j, bD_shaped j, ?_⟩
  rw [bD_eqv]
  exact hR

section
variable {P : Program} {w : World} {K : PySem.W.Frag} {mg : Str → Option Value} {base : Heap}
abbrev s_law : Stmt := top 57
theorem sc_law : FnScope ["_law_script", "_law_far", "_law_due", "_law_k", "_law_base_here", "_law_odd", "_law_bad", "_law_door", "_law_many", "_law_rows", "_law_numbers", "_law_thing"] ["_law_script"] (defScope s_law) := ⟨rfl, rfl, rfl, by decide +kernel, rfl, by decide +kernel, by decide +kernel⟩
theorem ok_law {f : Addr} {fd : FuncData} (F : Fun K "law" "law" s_law f fd) (T : Txt K mg) (h__law_value : Has P w K mg base "_law_value" 2 ["_law_cell", "_law_k", "_law_limit"] sp__law_value) (h__law_cell_at : Has P w K mg base "_law_cell_at" 1 ["_law_script", "_law_k"] (sp__law_cell_at K)) (h__law_base : Has P w K mg base "_law_base" 2 ["_law_script", "_law_k"] (sp__law_base K)) (h__law_size : Has P w K mg base "_law_size" 1 ["_law_base_here"] (sp__law_size K)) (h_size : Has P w K mg base "size" 5 ["base"] (sp_size K)) (h_read : Has P w K mg base "read" 7 ["base", "row"] (sp_read K)) (h_pair_by : Has P w K mg base "pair_by" 8 ["base", "number"] (sp_pair_by K)) {C1 C2 C3 C4 CV CB fb fp fr fn : Addr} (Z : Due K C1 C2 C3 C4 CV CB) (h__law_told : Has P w K mg base "_law_told" 11 ["_law_ask", "_law_one", "_law_other"] (sp__law_told K (HeldX P w K mg base 10) CB C1 C2 C3 C4 CV)) (g__law_with_base : mg "_law_with_base" = some (.ref fb)) (x_fb : HeldX P w K mg base 10 fb (sp_wbase K C1)) (g__law_with_pair : mg "_law_with_pair" = some (.ref fp)) (x_fp : HeldX P w K mg base 10 fp (sp_wpair K C2 CV)) (g__law_with_row : mg "_law_with_row" = some (.ref fr)) (x_fr : HeldX P w K mg base 10 fr (sp_wrow K C3)) (g__law_with_number : mg "_law_with_number" = some (.ref fn)) (x_fn : HeldX P w K mg base 10 fn (sp_wnum K C4)) : FnOk P w K mg base CX0 12 f fd ["_law_script"] (sp_law K) := by
  refine F.ok sc_law (fun vs H Q E h => ?_) (fun cdv A outer s H vs Q E hr h => ?_)
  · obtain ⟨_, rfl, _⟩ := h; rfl
  · obtain ⟨u, rfl, a, ns, rfl, hl, hn, hbits, q⟩ := h
    refine ⟨_, (pss_cons (ps_set (i := 1) sc_law.nd rfl (Or.inl rfl) (pe_H h__law_value (hr.mono (by decide)) (by rfl) (pa_cons (pe_H h__law_cell_at (hr.mono (by decide)) (by rfl) (pa_cons (pv 0) (pa_cons pe_int pa_nil))) (pa_cons pe_int (pa_cons pe_int pa_nil)))))
      (pss_cons (ps_set (i := 2) sc_law.nd rfl (Or.inr rfl) (pe_lst pa_nil))
      (pss_cons (ps_for PassesOwn.never rfl (pi_range1 (by rfl) T.z_range (pa_cons pe_int pa_nil)) (pg_name (i := 3) sc_law.nd rfl (Or.inl rfl)) (pss_one (ps_expr (pe_bm PySem.F.plainAttrs_list PySem.F.slot_list_append PySem.F.type_list_append mt_append (pv 2) (pa_cons (pe_lst (pa_cons (pe_cmpR op_eq (pv 3) pe_int (nomark _)) (pa_cons (pe_cmpR op_eq (pv 3) pe_int (nomark _)) (pa_cons (pe_cmpR op_eq (pv 3) pe_int (nomark _)) (pa_cons (pe_cmpR op_eq (pv 3) pe_int (nomark _)) (pa_cons (pe_cmpR op_eq (pv 3) pe_int (nomark _)) (pa_cons pe_bl pa_nil))))))) pa_nil)))))
      (pss_cons (ps_set (i := 4) sc_law.nd rfl (Or.inr rfl) (pe_H h__law_base (hr.mono (by decide)) (by rfl) (pa_cons (pv 0) (pa_cons pe_int pa_nil))))
      (pss_cons (ps_set (i := 5) sc_law.nd rfl (Or.inl rfl) (pe_lst (pa_cons pe_non (pa_cons (pe_tup pa_nil) (pa_cons (pe_tup (pa_cons pe_int pa_nil)) (pa_cons (pe_tup (pa_cons pe_int (pa_cons pe_int (pa_cons pe_int pa_nil)))) (pa_cons (pe_lst (pa_cons pe_int (pa_cons pe_int pa_nil))) (pa_cons pe_str (pa_cons pe_dnewT (pa_cons pe_int (pa_cons (pe_tup (pa_cons pe_bl (pa_cons pe_int pa_nil))) (pa_cons (pe_tup (pa_cons pe_int (pa_cons pe_bl pa_nil))) (pa_cons (pe_tup (pa_cons pe_str (pa_cons pe_int pa_nil))) (pa_cons (pe_tup (pa_cons pe_int (pa_cons pe_non pa_nil))) (pa_cons (pe_tup (pa_cons pe_int (pa_cons (pe_lst (pa_cons pe_int pa_nil)) pa_nil))) pa_nil)))))))))))))))
      (pss_cons (ps_set (i := 6) sc_law.nd rfl (Or.inl rfl) (pe_op op_cat (pv 5) (pe_lst (pa_cons (pe_tup (pa_cons pe_int (pa_cons pe_int pa_nil))) (pa_cons (pe_tup (pa_cons pe_int (pa_cons pe_int pa_nil))) (pa_cons (pe_tup (pa_cons pe_int (pa_cons (pe_un un_neg pe_int) pa_nil))) (pa_cons (pe_tup (pa_cons pe_int (pa_cons pe_int pa_nil))) (pa_cons (pe_tup (pa_cons pe_int (pa_cons (pe_un un_neg pe_int) pa_nil))) (pa_cons (pe_tup (pa_cons pe_int (pa_cons pe_int pa_nil))) (pa_cons (pe_tup (pa_cons (pe_un un_neg pe_int) (pa_cons pe_int pa_nil))) (pa_cons (pe_tup (pa_cons pe_int (pa_cons pe_int pa_nil))) (pa_cons (pe_tup (pa_cons pe_int (pa_cons pe_int pa_nil))) (pa_cons (pe_tup (pa_cons pe_int (pa_cons (pe_un un_neg pe_int) pa_nil))) (pa_cons (pe_tup (pa_cons (pe_op op_add pe_int (pv 1)) (pa_cons pe_int pa_nil))) pa_nil))))))))))))))
      (pss_cons (ps_set (i := 6) sc_law.nd rfl (Or.inl rfl) (pe_op op_cat (pv 6) (pe_lst (pa_cons (pe_tup (pa_cons pe_int (pa_cons (pe_op op_add pe_int (pv 1)) pa_nil))) (pa_cons (pe_tup (pa_cons (pe_op op_sub (pe_un un_neg pe_int) (pv 1)) (pa_cons pe_int pa_nil))) (pa_cons (pe_tup (pa_cons (pe_un un_neg pe_int) (pa_cons pe_int pa_nil))) (pa_cons (pe_tup (pa_cons pe_int (pa_cons (pe_un un_neg pe_int) pa_nil))) pa_nil)))))))
      (pss_cons (ps_for PassesOwn.never rfl (pi_range1 (by rfl) T.z_range (pa_cons pe_int pa_nil)) (pg_name (i := 7) sc_law.nd rfl (Or.inr rfl)) (pss_one (ps_if (pt_not (pt_val (pe_callB (cr_all rfl) (by rfl) T.z_all (by decide +kernel) (pa_cons (pe_lc (own := [("_law_thing", 11)]) (tt := tYes) rfl sc_law.nd (pi_list (pv 6)) (blkOk_by (own := [("_law_thing", 11)]) (N := ["_law_script", "_law_far", "_law_due", "_law_k", "_law_base_here", "_law_odd", "_law_bad", "_law_door", "_law_many", "_law_rows", "_law_numbers", "_law_thing"]) (sc := defScope s_law) (by decide +kernel)) (fun _ _ _ _ _ => (pg_name (i := 11) sc_law.nd rfl (Or.inl rfl))) (fun _ _ _ _ _ => pts_nil) (fun _ _ _ _ _ => (pe_cmpR (show OpR _ _ (rEqD K) from op_eqD hr.units) (pe_H h__law_told (hr.mono (by decide)) (by rfl) (pa_cons (pe_glob (by rfl) g__law_with_base (show RelV (.ref fb) _ from rfl)) (pa_cons (pv 7) (pa_cons (pv 11) pa_nil)))) (pe_ix (show IxR _ (rIxL K) from ix_list) (pv 2) pe_int (fun _ _ => rfl)) (nomark _)))) pa_nil)))) (pss_one (ps_ret pe_bl)) pss_nil)))
      (pss_cons (ps_for PassesOwn.never rfl (pi_range1 (by rfl) T.z_range (pa_cons pe_int pa_nil)) (pg_name (i := 7) sc_law.nd rfl (Or.inr rfl)) (pss_one (ps_if (pt_not (pt_val (pe_callB (cr_all rfl) (by rfl) T.z_all (by decide +kernel) (pa_cons (pe_lc (own := [("_law_thing", 11)]) (tt := tYes) rfl sc_law.nd (pi_list (pv 5)) (blkOk_by (own := [("_law_thing", 11)]) (N := ["_law_script", "_law_far", "_law_due", "_law_k", "_law_base_here", "_law_odd", "_law_bad", "_law_door", "_law_many", "_law_rows", "_law_numbers", "_law_thing"]) (sc := defScope s_law) (by decide +kernel)) (fun _ _ _ _ _ => (pg_name (i := 11) sc_law.nd rfl (Or.inl rfl))) (fun _ _ _ _ _ => pts_nil) (fun _ _ _ _ _ => (pe_cmpR (show OpR _ _ (rEqD K) from op_eqD hr.units) (pe_H h__law_told (hr.mono (by decide)) (by rfl) (pa_cons (pe_glob (by rfl) g__law_with_pair (show RelV (.ref fp) _ from rfl)) (pa_cons (pe_tup (pa_cons (pv 7) (pa_cons (pv 4) pa_nil))) (pa_cons (pv 11) pa_nil)))) (pe_ix (show IxR _ (rIxL K) from ix_list) (pv 2) pe_int (fun _ _ => rfl)) (nomark _)))) pa_nil)))) (pss_one (ps_ret pe_bl)) pss_nil)))
      (pss_cons (ps_set (i := 8) sc_law.nd rfl (Or.inl rfl) (pe_H h__law_size (hr.mono (by decide)) (by rfl) (pa_cons (pv 4) pa_nil)))
      (pss_cons (ps_set (i := 9) sc_law.nd rfl (Or.inl rfl) (pe_lst (pa_cons pe_non (pa_cons (pe_tup pa_nil) (pa_cons (pe_tup (pa_cons pe_int pa_nil)) (pa_cons pe_str (pa_cons pe_dnewT (pa_cons pe_int (pa_cons (pe_lst (pa_cons pe_non pa_nil)) (pa_cons (pe_lst (pa_cons pe_str pa_nil)) (pa_cons (pe_lst (pa_cons pe_bl pa_nil)) (pa_cons (pe_lst (pa_cons pe_int pa_nil)) (pa_cons (pe_lst (pa_cons pe_int (pa_cons pe_int pa_nil))) (pa_cons (pe_lst (pa_cons (pe_un un_neg pe_int) pa_nil)) (pa_cons (pe_lst (pa_cons (pe_op op_sub (pe_un un_neg pe_int) (pv 1)) (pa_cons pe_int pa_nil))) (pa_cons (pe_lst (pa_cons (pv 8) pa_nil)) pa_nil))))))))))))))))
      (pss_cons (ps_set (i := 9) sc_law.nd rfl (Or.inl rfl) (pe_op op_cat (pv 9) (pe_lst (pa_cons (pe_lst (pa_cons pe_int (pa_cons (pe_op op_add (pv 8) (pv 1)) pa_nil))) (pa_cons (pe_lst (pa_cons (pe_lst (pa_cons pe_int pa_nil)) pa_nil)) (pa_cons (pe_lst (pa_cons pe_int (pa_cons pe_bl pa_nil))) (pa_cons (pe_lst (pa_cons pe_int (pa_cons pe_int pa_nil))) (pa_cons (pe_lst (pa_cons pe_int (pa_cons pe_int (pa_cons pe_int pa_nil)))) (pa_cons (pe_lst (pa_cons (pe_tup (pa_cons pe_int pa_nil)) pa_nil)) (pa_cons (pe_lst (pa_cons pe_bl (pa_cons pe_int pa_nil))) (pa_cons (pe_lst (pa_cons pe_bl (pa_cons pe_int pa_nil))) (pa_cons (pe_lst (pa_cons pe_non (pa_cons pe_int pa_nil))) pa_nil))))))))))))
      (pss_cons (ps_if (pt_not (pt_val (pe_callB (cr_all rfl) (by rfl) T.z_all (by decide +kernel) (pa_cons (pe_lc (own := [("_law_thing", 11)]) (tt := tYes) rfl sc_law.nd (pi_list (pv 9)) (blkOk_by (own := [("_law_thing", 11)]) (N := ["_law_script", "_law_far", "_law_due", "_law_k", "_law_base_here", "_law_odd", "_law_bad", "_law_door", "_law_many", "_law_rows", "_law_numbers", "_law_thing"]) (sc := defScope s_law) (by decide +kernel)) (fun _ _ _ _ _ => (pg_name (i := 11) sc_law.nd rfl (Or.inl rfl))) (fun _ _ _ _ _ => pts_nil) (fun _ _ _ _ _ => (pe_cmpR (show OpR _ _ (rEqD K) from op_eqD hr.units) (pe_H h__law_told (hr.mono (by decide)) (by rfl) (pa_cons (pe_glob (by rfl) g__law_with_row (show RelV (.ref fr) _ from rfl)) (pa_cons (pv 4) (pa_cons (pv 11) pa_nil)))) (pe_ix (show IxR _ (rIxL K) from ix_list) (pv 2) pe_int (fun _ _ => rfl)) (nomark _)))) pa_nil)))) (pss_one (ps_ret pe_bl)) pss_nil)
      (pss_cons (ps_set (i := 10) sc_law.nd rfl (Or.inl rfl) (pe_lst (pa_cons pe_non (pa_cons pe_str (pa_cons pe_bl (pa_cons (pe_un un_neg pe_int) (pa_cons (pe_op op_sub (pe_un un_neg pe_int) (pv 1)) (pa_cons (pe_lst (pa_cons pe_int pa_nil)) (pa_cons (pe_tup (pa_cons pe_int pa_nil)) pa_nil)))))))))
      (pss_cons (ps_if (pt_not (pt_val (pe_callB (cr_all rfl) (by rfl) T.z_all (by decide +kernel) (pa_cons (pe_lc (own := [("_law_thing", 11)]) (tt := tYes) rfl sc_law.nd (pi_list (pv 10)) (blkOk_by (own := [("_law_thing", 11)]) (N := ["_law_script", "_law_far", "_law_due", "_law_k", "_law_base_here", "_law_odd", "_law_bad", "_law_door", "_law_many", "_law_rows", "_law_numbers", "_law_thing"]) (sc := defScope s_law) (by decide +kernel)) (fun _ _ _ _ _ => (pg_name (i := 11) sc_law.nd rfl (Or.inl rfl))) (fun _ _ _ _ _ => pts_nil) (fun _ _ _ _ _ => (pe_cmpR (show OpR _ _ (rEqD K) from op_eqD hr.units) (pe_H h__law_told (hr.mono (by decide)) (by rfl) (pa_cons (pe_glob (by rfl) g__law_with_number (show RelV (.ref fn) _ from rfl)) (pa_cons (pv 4) (pa_cons (pv 11) pa_nil)))) (pe_ix (show IxR _ (rIxL K) from ix_list) (pv 2) pe_int (fun _ _ => rfl)) (nomark _)))) pa_nil)))) (pss_one (ps_ret pe_bl)) pss_nil)
      (pss_cons (ps_if (pt_cmpR (op_neD hr.units) (pe_H h__law_told (hr.mono (by decide)) (by rfl) (pa_cons (pe_glob (by rfl) g__law_with_pair (show RelV (.ref fp) _ from rfl)) (pa_cons (pe_tup (pa_cons pe_int (pa_cons (pe_tup (pa_cons pe_int (pa_cons pe_int pa_nil))) pa_nil))) (pa_cons (pe_tup (pa_cons pe_int (pa_cons pe_int pa_nil))) pa_nil)))) (pe_ix (show IxR _ (rIxL K) from ix_list) (pv 2) pe_int (fun _ _ => rfl)) (nomark _)) (pss_one (ps_ret pe_bl)) pss_nil)
      (pss_cons (ps_if (PW.pt (pw_or (pt_cmpR op_ne (pe_H h_size (hr.mono (by decide)) (by rfl) (pa_cons (pe_tup (pa_cons pe_int (pa_cons pe_int pa_nil))) pa_nil)) pe_int (nomark _)) (pw_or (pt_cmpR op_ne (pe_H h_size (hr.mono (by decide)) (by rfl) (pa_cons (pe_tup (pa_cons (pe_op op_sub pe_int pe_int) (pa_cons pe_int pa_nil))) pa_nil)) pe_int (nomark _)) (pw_or (pt_cmpR (op_neD hr.units) (pe_H h_read (hr.mono (by decide)) (by rfl) (pa_cons (pv 4) (pa_cons (pe_lst (pa_cons pe_int pa_nil)) pa_nil))) (pe_tup (pa_cons pe_int (pa_cons pe_int pa_nil))) (nomark _)) (pw_or1 (pt_cmpR (op_neD hr.units) (pe_H h_read (hr.mono (by decide)) (by rfl) (pa_cons (pv 4) (pa_cons (pe_lst pa_nil) pa_nil))) (pe_tup (pa_cons pe_int (pa_cons pe_int pa_nil))) (nomark _))))))) (pss_one (ps_ret pe_bl)) pss_nil)
      (pss_one (ps_ret (pe_and (pe_cmpR (show OpR _ _ (rEqD K) from op_eqD hr.units) (pe_H h_read (hr.mono (by decide)) (by rfl) (pa_cons (pv 4) (pa_cons (pe_lst (pa_cons (pe_op op_sub (pv 8) pe_int) pa_nil)) pa_nil))) (pe_tup (pa_cons (pe_op op_sub (pv 8) pe_int) (pa_cons pe_int pa_nil))) (nomark _)) (pe_one (pe_cmpR (show OpR _ _ (rEqD K) from op_eqD hr.units) (pe_H h_pair_by (hr.mono (by decide)) (by rfl) (pa_cons (pv 4) (pa_cons pe_int pa_nil))) (pe_tup (pa_cons pe_int (pa_cons pe_int pa_nil))) (nomark _))))))))))))))))))))))), ?_⟩
    refine seq_cut (fun σ' H' => ∃ far : Int, σ' = [some (.ref a), some (.int far), none, none, none, none, none, none, none, none, none, none] ∧ Same H H' ∧ 0 ≤ far) (fun N hN => ?_) ?_
    · walk_at "rd"
      refine ⟨_, _, rfl, a, ns, 0, rfl, rfl, hl, ?_⟩
      refine ⟨_, _, _, rfl, _, _, _, rfl, rfl, rfl, by decide, by decide, by decide, by decide, ?_, fun d H1 s1 d0 d1 => hN _ _ ⟨d, rfl, s1, d0⟩⟩
      cases ns with
      | nil => decide
      | cons z zs => exact hbits z List.mem_cons_self
    rintro σ' H1 ⟨far, rfl, s1, far0⟩
    refine seq_cut (fun σ' H' => ∃ d, σ' = [some (.ref a), some (.int far), some (.ref d), none, none, none, none, none, none, none, none, none] ∧ Same H1 H' ∧ H1 d = none ∧ H' d = some (.lst [])) (fun N hN => ?_) ?_
    · walk_at "rd"
      exact ⟨small_size (by decide), fun d nd => hN _ _ ⟨d, rfl, same_upd nd, nd, upd_same⟩⟩
    rintro σ' H2 ⟨d, rfl, s2, nd, hd0⟩
    refine seq_cut (fun σ' H' => ∃ q3, σ' = [some (.ref a), some (.int far), some (.ref d), q3, none, none, none, none, none, none, none, none] ∧ Same H1 H' ∧ DueL H' d 5) (fun N hN => ?_) ?_
    · obtain ⟨W, hW⟩ : ∃ W : Nat → L2.St → Hp → Prop, ∀ i σ' H', W i σ' H' ↔ ∃ q3, σ' = [some (.ref a), some (.int far), some (.ref d), q3, none, none, none, none, none, none, none, none] ∧ Same H1 H' ∧ DueL H' d i := ⟨_, fun _ _ _ => Iff.rfl⟩
      refine ⟨5, rfl, by decide, by decide, for_range (lo := 0) (n := 5) W ((hW _ _ _).mpr ⟨_, rfl, s2, [], hd0, rfl, fun j v hv => by simp at hv⟩) (fun i σ' H0 hi w => ?_) (fun σ' H0 w => ?_)⟩
      · obtain ⟨q3, rfl, s0, vs, hL, lv, hv⟩ := (hW _ _ _).mp w
        walk_at "rd"
        refine ⟨.inl ⟨rfl, _, SqL.of hL⟩, small_size (by decide), fun p np => ⟨vs, same_upd np _ _ hL, small_size_lt (by omega), (hW _ _ _).mpr ⟨_, rfl, same_own (s0.trans (same_upd np)) nd, vs ++ [.ref p], upd_same, by rw [List.length_append, lv]; rfl, fun j v hj => ?_⟩⟩⟩
        rcases Nat.lt_or_ge j i with c | c
        · rw [List.getElem?_append_left (by omega)] at hj
          obtain ⟨e, rfl, he⟩ := hv j v hj
          refine ⟨e, rfl, ?_⟩
          have ed : e ≠ d := fun z => by
            subst z
            rw [hL] at he
            have := congrArg List.length (HO.lst.inj (Option.some.inj he))
            rw [List.length_map] at this
            have l6 : (kB j).length = 6 := rfl
            omega
          rw [upd_ne ed]
          exact same_upd np _ _ he
        · rw [List.getElem?_append_right (by omega)] at hj
          have ej : j = i := by
            have := (List.getElem?_eq_some_iff.mp hj).1
            rw [List.length_singleton] at this
            omega
          subst ej
          rw [lv, Nat.sub_self] at hj
          obtain rfl := (Option.some.inj hj).symm
          refine ⟨p, rfl, ?_⟩
          rw [upd_ne (ne_of_none hL np).symm, upd_same]
          unfold kB
          have e0 : ∀ c : Nat, decide ((0 : Int) + (j : Int) = (c : Int)) = decide (j = c) := fun c => by
            by_cases z : j = c
            · rw [decide_eq_true z, decide_eq_true (by omega)]
            · rw [decide_eq_false z, decide_eq_false (by omega)]
          have a0 := e0 0
          have a1 := e0 1
          have a2 := e0 2
          have a3 := e0 3
          have a4 := e0 4
          simp only [Int.cast_ofNat_Int] at a0 a1 a2 a3 a4
          simp only [List.map_cons, List.map_nil, ← a0, ← a1, ← a2, ← a3, ← a4]
      · obtain ⟨q3, rfl, s0, h0⟩ := (hW _ _ _).mp w
        exact hN _ _ ⟨q3, rfl, s0, h0⟩
    rintro σ' H3 ⟨q3, rfl, s3, hd⟩
    refine seq_cut (fun σ' H' => ∃ bv b, σ' = [some (.ref a), some (.int far), some (.ref d), q3, some bv, none, none, none, none, none, none, none] ∧ Same H3 H' ∧ isB b = true ∧ Pa K H' bv b) (fun N hN => ?_) ?_
    · walk_at "rd"
      exact ⟨_, _, rfl, a, ns, 0, rfl, rfl, (s1.trans s3).seq hl, by omega, fun bv b H2 s2 hb hbv => hN _ _ ⟨bv, b, rfl, s2, hb, hbv⟩⟩
    rintro σ' H4 ⟨bv, b, rfl, s4, hb, hbv⟩
    refine seq_cut (fun σ' H' => ∃ lo os, σ' = [some (.ref a), some (.int far), some (.ref d), q3, some bv, some (.ref lo), none, none, none, none, none, none] ∧ Same H4 H' ∧ H' lo = some (.lst os) ∧ os.length = 13 ∧ ∀ v ∈ os, NoPair K H' v) (fun N hN => ?_) ?_
    · unfold L2.tAsg
      refine giv_lst (n := 13) (Pr := NoPair K) ?gl5 (fun _ _ _ e h => NoPair.same e h) (by decide) _ _ (fun p vs H' s l ps np hp => hN _ _ ⟨p, vs, rfl, s, hp, l, ps⟩)
      exact (givL_cons (fun _ _ _ e h => NoPair.same e h)
        (fun H Q k => k _ _ (Same.refl _) (np_ty (.base .non) (by decide +kernel)))
        (givL_cons (fun _ _ _ e h => NoPair.same e h)
        (fun H Q k => ⟨small_size (by show 0 ≤ 16000000; decide), fun p np => k _ _ (same_upd np) (np_len SqT.new (by decide))⟩)
        (givL_cons (fun _ _ _ e h => NoPair.same e h)
        (fun H Q k => ⟨small_size (by show 1 ≤ 16000000; decide), fun p np => k _ _ (same_upd np) (np_len SqT.new (by decide))⟩)
        (givL_cons (fun _ _ _ e h => NoPair.same e h)
        (fun H Q k => ⟨small_size (by show 3 ≤ 16000000; decide), fun p np => k _ _ (same_upd np) (np_len SqT.new (by decide))⟩)
        (givL_cons (fun _ _ _ e h => NoPair.same e h)
        (fun H Q k => ⟨small_size (by show 2 ≤ 16000000; decide), fun p np => k _ _ (same_upd np) (np_ty (.base (.lst upd_same)) (by decide +kernel))⟩)
        (givL_cons (fun _ _ _ e h => NoPair.same e h)
        (fun H Q k => k _ _ (Same.refl _) (np_ty (.base (.str _)) (by decide +kernel)))
        (givL_cons (fun _ _ _ e h => NoPair.same e h)
        (fun H Q k p np => k _ _ (same_upd np) (np_ty (.base (.dT upd_same)) (by decide +kernel)))
        (givL_cons (fun _ _ _ e h => NoPair.same e h)
        (fun H Q k => k _ _ (Same.refl _) (np_ty (.base (.int _)) (by decide +kernel)))
        (givL_cons (fun _ _ _ e h => NoPair.same e h)
        (fun H Q k => ⟨small_size (by show 2 ≤ 16000000; decide), fun p np => k _ _ (same_upd np) (np_1 SqT.new nn_bl)⟩)
        (givL_cons (fun _ _ _ e h => NoPair.same e h)
        (fun H Q k => ⟨small_size (by show 2 ≤ 16000000; decide), fun p np => k _ _ (same_upd np) (np_2 SqT.new nn_bl)⟩)
        (givL_cons (fun _ _ _ e h => NoPair.same e h)
        (fun H Q k => ⟨small_size (by show 2 ≤ 16000000; decide), fun p np => k _ _ (same_upd np) (np_1 SqT.new nn_str)⟩)
        (givL_cons (fun _ _ _ e h => NoPair.same e h)
        (fun H Q k => ⟨small_size (by show 2 ≤ 16000000; decide), fun p np => k _ _ (same_upd np) (np_2 SqT.new nn_non)⟩)
        (givL_cons (fun _ _ _ e h => NoPair.same e h)
        (fun H Q k => ⟨small_size (by show 1 ≤ 16000000; decide), fun p1 n1 => ⟨small_size (by show 2 ≤ 16000000; decide), fun p np => k _ _ ((same_upd n1).trans (same_upd np)) (np_2 SqT.new (nn_lst (same_upd np _ _ upd_same)))⟩⟩)
        givL_nil)))))))))))))
    rintro σ' H5 ⟨lo, os, rfl, s5, hlo, los, hos⟩
    refine seq_cut (fun σ' H' => ∃ lb bs, σ' = [some (.ref a), some (.int far), some (.ref d), q3, some bv, some (.ref lo), some (.ref lb), none, none, none, none, none] ∧ Same H5 H' ∧ H' lb = some (.lst bs) ∧ bs.length = 24 ∧ ∀ v ∈ bs, BadB K H' v) (fun N hN => ?_) ?_
    · unfold L2.tAsg L2.tOp
      refine ⟨_, rfl, giv_lst (n := 11) (Pr := BadB K) ?gl6 (fun _ _ _ e h => BadB.same e h) (by decide) _ _ (fun p vs H' s l ps np hp => ⟨_, _, _, _, rfl, rfl, s _ _ hlo, hp, small_size (by omega), fun p2 np2 => hN _ _ ⟨p2, _, rfl, s.trans (same_upd np2), upd_same, by rw [List.length_append]; omega, fun v hv => ?_⟩⟩)⟩
      case gl6 => exact (givL_cons (fun _ _ _ e h => BadB.same e h)
        (fun H Q k => ⟨small_size (by show 2 ≤ 16000000; decide), fun p np => k _ _ (same_upd np) (bb_pa upd_same (by decide +kernel))⟩)
        (givL_cons (fun _ _ _ e h => BadB.same e h)
        (fun H Q k => ⟨small_size (by show 2 ≤ 16000000; decide), fun p np => k _ _ (same_upd np) (bb_pa upd_same (by decide +kernel))⟩)
        (givL_cons (fun _ _ _ e h => BadB.same e h)
        (fun H Q k => ⟨_, rfl, small_size (by show 2 ≤ 16000000; decide), fun p np => k _ _ (same_upd np) (bb_pa upd_same (by decide +kernel))⟩)
        (givL_cons (fun _ _ _ e h => BadB.same e h)
        (fun H Q k => ⟨small_size (by show 2 ≤ 16000000; decide), fun p np => k _ _ (same_upd np) (bb_pa upd_same (by decide +kernel))⟩)
        (givL_cons (fun _ _ _ e h => BadB.same e h)
        (fun H Q k => ⟨_, rfl, small_size (by show 2 ≤ 16000000; decide), fun p np => k _ _ (same_upd np) (bb_pa upd_same (by decide +kernel))⟩)
        (givL_cons (fun _ _ _ e h => BadB.same e h)
        (fun H Q k => ⟨small_size (by show 2 ≤ 16000000; decide), fun p np => k _ _ (same_upd np) (bb_pa upd_same (by decide +kernel))⟩)
        (givL_cons (fun _ _ _ e h => BadB.same e h)
        (fun H Q k => ⟨_, rfl, small_size (by show 2 ≤ 16000000; decide), fun p np => k _ _ (same_upd np) (bb_pa upd_same (by decide +kernel))⟩)
        (givL_cons (fun _ _ _ e h => BadB.same e h)
        (fun H Q k => ⟨small_size (by show 2 ≤ 16000000; decide), fun p np => k _ _ (same_upd np) (bb_pa upd_same (by decide +kernel))⟩)
        (givL_cons (fun _ _ _ e h => BadB.same e h)
        (fun H Q k => ⟨small_size (by show 2 ≤ 16000000; decide), fun p np => k _ _ (same_upd np) (bb_pa upd_same (by decide +kernel))⟩)
        (givL_cons (fun _ _ _ e h => BadB.same e h)
        (fun H Q k => ⟨_, rfl, small_size (by show 2 ≤ 16000000; decide), fun p np => k _ _ (same_upd np) (bb_pa upd_same (by decide +kernel))⟩)
        (givL_cons (fun _ _ _ e h => BadB.same e h)
        (fun H Q k => ⟨_, rfl, _, _, rfl, rfl, small_size (by show 2 ≤ 16000000; decide), fun p np => k _ _ (same_upd np) (bb_pa upd_same (isB_1 (.inl (by omega))))⟩)
        givL_nil)))))))))))
      have s6 : Same H' _ := same_upd (o := .lst (os ++ vs)) np2
      rcases List.mem_append.mp hv with hv | hv
      · exact .inl ((hos v hv).same (s.trans s6))
      · exact (ps v hv).same s6
    rintro σ' H6 ⟨lb, bs, rfl, s6, hlb, lbs, hbs⟩
    refine seq_cut (fun σ' H' => ∃ lb bs, σ' = [some (.ref a), some (.int far), some (.ref d), q3, some bv, some (.ref lo), some (.ref lb), none, none, none, none, none] ∧ Same H6 H' ∧ H' lb = some (.lst bs) ∧ bs.length = 28 ∧ ∀ v ∈ bs, BadB K H' v) (fun N hN => ?_) ?_
    · unfold L2.tAsg L2.tOp
      refine ⟨_, rfl, giv_lst (n := 4) (Pr := BadB K) ?gl7 (fun _ _ _ e h => BadB.same e h) (by decide) _ _ (fun p vs H' s l ps np hp => ⟨_, _, _, _, rfl, rfl, s _ _ hlb, hp, small_size (by omega), fun p2 np2 => hN _ _ ⟨p2, _, rfl, s.trans (same_upd np2), upd_same, by rw [List.length_append]; omega, fun v hv => ?_⟩⟩)⟩
      case gl7 => exact (givL_cons (fun _ _ _ e h => BadB.same e h)
        (fun H Q k => ⟨_, rfl, _, _, rfl, rfl, small_size (by show 2 ≤ 16000000; decide), fun p np => k _ _ (same_upd np) (bb_pa upd_same (isB_2 (.inl (by omega))))⟩)
        (givL_cons (fun _ _ _ e h => BadB.same e h)
        (fun H Q k => ⟨_, rfl, _, rfl, _, _, rfl, rfl, small_size (by show 2 ≤ 16000000; decide), fun p np => k _ _ (same_upd np) (bb_pa upd_same (isB_1 (.inr (by omega))))⟩)
        (givL_cons (fun _ _ _ e h => BadB.same e h)
        (fun H Q k => ⟨_, rfl, small_size (by show 2 ≤ 16000000; decide), fun p np => k _ _ (same_upd np) (bb_pa upd_same (by decide +kernel))⟩)
        (givL_cons (fun _ _ _ e h => BadB.same e h)
        (fun H Q k => ⟨_, rfl, small_size (by show 2 ≤ 16000000; decide), fun p np => k _ _ (same_upd np) (bb_pa upd_same (by decide +kernel))⟩)
        givL_nil))))
      have s6 : Same H' _ := same_upd (o := .lst (bs ++ vs)) np2
      rcases List.mem_append.mp hv with hv | hv
      · exact (hbs v hv).same (s.trans s6)
      · exact (ps v hv).same s6
    clear hlb lbs hbs lb bs
    rintro σ' H7 ⟨lb, bs, rfl, s7, hlb, lbs, hbs⟩
    have hd7 : DueL H7 d 5 := hd.same (s4.trans (s5.trans (s6.trans s7)))
    refine seq_cut (fun σ' H' => ∃ q7, σ' = [some (.ref a), some (.int far), some (.ref d), q3, some bv, some (.ref lo), some (.ref lb), q7, none, none, none, none] ∧ Same H7 H') (fun N hN => ?_) ?_
    · obtain ⟨W, hW⟩ : ∃ W : Nat → L2.St → Hp → Prop, ∀ i σ' H', W i σ' H' ↔ ∃ q7, σ' = [some (.ref a), some (.int far), some (.ref d), q3, some bv, some (.ref lo), some (.ref lb), q7, none, none, none, none] ∧ Same H7 H' := ⟨_, fun _ _ _ => Iff.rfl⟩
      refine ⟨7, rfl, by decide, by decide, for_range (lo := 0) (n := 7) W ((hW _ _ _).mpr ⟨_, rfl, Same.refl _⟩) (fun i σ' H0 hi w => ?_) (fun σ' H0 w => ?_)⟩
      · obtain ⟨q7, rfl, s0⟩ := (hW _ _ _).mp w
        walk_at "rd"
        have hx0 := SqL.of (K := K) (s0 _ _ hlb)
        refine ⟨_, rfl, lb, rfl, ⟨bs, hx0⟩, fun D hD => lc_map (K := K) (xs := bs) ((bs.map fun _ => true).map V.bl) (by rw [List.length_map, List.length_map]) (by omega) hx0 hD (fun j x y H1 R hx hy s1 r => ?_) (fun H1 s1 hL => ⟨D, _, rfl, SqL.of hL, _, rfl, ?_⟩)⟩
        · rw [List.getElem?_map, List.getElem?_map] at hy
          rw [hx] at hy
          obtain rfl := (Option.some.inj hy).symm
          have hbx := (hbs x (List.mem_of_getElem? hx)).same (s0.trans s1)
          walk_at "rd"
          refine ⟨fb, _, _, _, rfl, x_fb, C1, true, false, false, false, false, Z.e1, Z.k1, fun Q' E' hE => ⟨_, _, rfl, _, rfl, by omega, by omega, hbx, hE⟩, fun e H2 s2 he => due_eq 0 (by decide) (hd7.same (s0.trans s1)) s2 he (r _ s2)⟩
        · rw [all_true]
          exact ifF rfl ((hW _ _ _).mpr ⟨_, rfl, s0.trans s1⟩)
      · obtain ⟨q7, rfl, s0⟩ := (hW _ _ _).mp w
        exact hN _ _ ⟨q7, rfl, s0⟩
    rintro σ' H8 ⟨q7, rfl, s8⟩
    have hd8 := hd7.same s8
    have s58 := s6.trans (s7.trans s8)
    have hlo8 := s58 _ _ hlo
    have hos8 : ∀ v ∈ os, NoPair K H8 v := fun v hv => (hos v hv).same s58
    have hbv8 := hbv.same (s5.trans s58)
    refine seq_cut (fun σ' H' => ∃ q7, σ' = [some (.ref a), some (.int far), some (.ref d), q3, some bv, some (.ref lo), some (.ref lb), q7, none, none, none, none] ∧ Same H8 H') (fun N hN => ?_) ?_
    · obtain ⟨W, hW⟩ : ∃ W : Nat → L2.St → Hp → Prop, ∀ i σ' H', W i σ' H' ↔ ∃ q7, σ' = [some (.ref a), some (.int far), some (.ref d), q3, some bv, some (.ref lo), some (.ref lb), q7, none, none, none, none] ∧ Same H8 H' := ⟨_, fun _ _ _ => Iff.rfl⟩
      refine ⟨5, rfl, by decide, by decide, for_range (lo := 0) (n := 5) W ((hW _ _ _).mpr ⟨_, rfl, Same.refl _⟩) (fun i σ' H0 hi w => ?_) (fun σ' H0 w => ?_)⟩
      · obtain ⟨q7, rfl, s0⟩ := (hW _ _ _).mp w
        walk_at "rd"
        have hx0 := SqL.of (K := K) (s0 _ _ hlo8)
        refine ⟨_, rfl, lo, rfl, ⟨os, hx0⟩, fun D hD => lc_map (K := K) (xs := os) ((os.map fun _ => true).map V.bl) (by rw [List.length_map, List.length_map]) (by omega) hx0 hD (fun j x y H1 R hx hy s1 r => ?_) (fun H1 s1 hL => ⟨D, _, rfl, SqL.of hL, _, rfl, ?_⟩)⟩
        · rw [List.getElem?_map, List.getElem?_map] at hy
          rw [hx] at hy
          obtain rfl := (Option.some.inj hy).symm
          have hox := (hos8 x (List.mem_of_getElem? hx)).same (s0.trans s1)
          walk_at "rd"
          refine ⟨small_size (by decide), fun p np => ?_⟩
          have t1 := same_upd (o := .tup [V.int (0 + (i : Int)), bv]) np
          refine ⟨fp, _, _, _, rfl, x_fp, C2, false, true, false, false, false, Z.e2, Z.k2, fun Q' E' hE => ⟨_, _, rfl, p, _, bv, rfl, SqT.new, by omega, by omega, .inl ⟨⟨b, hbv8.same (s0.trans (s1.trans t1)), hb⟩, hox.same t1, hE⟩⟩, fun e H2 s2 he => due_eq 1 (by decide) (hd8.same (s0.trans (s1.trans t1))) s2 he (r _ (t1.trans s2))⟩
        · rw [all_true]
          exact ifF rfl ((hW _ _ _).mpr ⟨_, rfl, s0.trans s1⟩)
      · obtain ⟨q7, rfl, s0⟩ := (hW _ _ _).mp w
        exact hN _ _ ⟨q7, rfl, s0⟩
    clear q7
    rintro σ' H9 ⟨q7, rfl, s9⟩
    have hbv9 := hbv8.same s9
    have hd9 := hd8.same s9
    obtain ⟨b1, b2, _⟩ := isB_iff.mp hb
    have g := good hb
    refine seq_cut (fun σ' H' => σ' = [some (.ref a), some (.int far), some (.ref d), q3, some bv, some (.ref lo), some (.ref lb), q7, some (.int (nm b)), none, none, none] ∧ H' = H9) (fun N hN => ?_) ?_
    · walk_at "rd"
      exact ⟨_, rfl, b, hbv9, by omega, by omega, hN _ _ ⟨rfl, rfl⟩⟩
    rintro σ' H10 ⟨rfl, rfl⟩
    refine seq_cut (fun σ' H' => ∃ lr rs, σ' = [some (.ref a), some (.int far), some (.ref d), q3, some bv, some (.ref lo), some (.ref lb), q7, some (.int (nm b)), some (.ref lr), none, none] ∧ Same H10 H' ∧ H' lr = some (.lst rs) ∧ rs.length = 14 ∧ ∀ v ∈ rs, BadR K H' b v) (fun N hN => ?_) ?_
    · unfold L2.tAsg
      refine giv_lst (n := 14) (Pr := fun H v => BadR K H b v) ?gl11 (fun _ _ _ e h => BadR.same e h) (by decide) _ _ (fun p vs H' s l ps np hp => hN _ _ ⟨p, vs, rfl, s, hp, l, ps⟩)
      exact (givL_cons (fun _ _ _ e h => BadR.same e h)
        (fun H Q k => k _ _ (Same.refl _) (nl_ty (.base .non) (by decide +kernel)))
        (givL_cons (fun _ _ _ e h => BadR.same e h)
        (fun H Q k => ⟨small_size (by show 0 ≤ 16000000; decide), fun p np => k _ _ (same_upd np) (nl_ty (.base (.tup upd_same)) (by decide +kernel))⟩)
        (givL_cons (fun _ _ _ e h => BadR.same e h)
        (fun H Q k => ⟨small_size (by show 1 ≤ 16000000; decide), fun p np => k _ _ (same_upd np) (nl_ty (.base (.tup upd_same)) (by decide +kernel))⟩)
        (givL_cons (fun _ _ _ e h => BadR.same e h)
        (fun H Q k => k _ _ (Same.refl _) (nl_ty (.base (.str _)) (by decide +kernel)))
        (givL_cons (fun _ _ _ e h => BadR.same e h)
        (fun H Q k p np => k _ _ (same_upd np) (nl_ty (.base (.dT upd_same)) (by decide +kernel)))
        (givL_cons (fun _ _ _ e h => BadR.same e h)
        (fun H Q k => k _ _ (Same.refl _) (nl_ty (.base (.int _)) (by decide +kernel)))
        (givL_cons (fun _ _ _ e h => BadR.same e h)
        (fun H Q k => ⟨small_size (by show 1 ≤ 16000000; decide), fun p np => k _ _ (same_upd np) (br_1 SqL.new nn_non)⟩)
        (givL_cons (fun _ _ _ e h => BadR.same e h)
        (fun H Q k => ⟨small_size (by show 1 ≤ 16000000; decide), fun p np => k _ _ (same_upd np) (br_1 SqL.new nn_str)⟩)
        (givL_cons (fun _ _ _ e h => BadR.same e h)
        (fun H Q k => ⟨small_size (by show 1 ≤ 16000000; decide), fun p np => k _ _ (same_upd np) (br_1 SqL.new nn_bl)⟩)
        (givL_cons (fun _ _ _ e h => BadR.same e h)
        (fun H Q k => ⟨small_size (by show 1 ≤ 16000000; decide), fun p np => k _ _ (same_upd np) (br_i [0] SqL.new rfl (by show 1 ≤ 1000000; decide) (fun r => r.2 0 rfl rfl))⟩)
        (givL_cons (fun _ _ _ e h => BadR.same e h)
        (fun H Q k => ⟨small_size (by show 2 ≤ 16000000; decide), fun p np => k _ _ (same_upd np) (br_i [1, 0] SqL.new rfl (by show 2 ≤ 1000000; decide) (fun r => r.2 0 rfl rfl))⟩)
        (givL_cons (fun _ _ _ e h => BadR.same e h)
        (fun H Q k => ⟨_, rfl, small_size (by show 1 ≤ 16000000; decide), fun p np => k _ _ (same_upd np) (br_i [-1] SqL.new rfl (by show 1 ≤ 1000000; decide) (fun r => absurd (r.1 (-1) List.mem_cons_self).1 (by decide)))⟩)
        (givL_cons (fun _ _ _ e h => BadR.same e h)
        (fun H Q k => ⟨_, rfl, _, rfl, _, _, rfl, rfl, small_size (by show 2 ≤ 16000000; decide), fun p np => k _ _ (same_upd np) (br_i [-1 - far, 1] SqL.new rfl (by show 2 ≤ 1000000; decide) (fun r => absurd (r.1 (-1 - far) List.mem_cons_self).1 (by omega)))⟩)
        (givL_cons (fun _ _ _ e h => BadR.same e h)
        (fun H Q k => ⟨_, rfl, small_size (by show 1 ≤ 16000000; decide), fun p np => k _ _ (same_upd np) (br_i [nm b] SqL.new rfl (by show 1 ≤ 1000000; decide) (fun r => absurd (r.1 (nm b) List.mem_cons_self).2 (by omega)))⟩)
        givL_nil))))))))))))))
    rintro σ' H11 ⟨lr, rs, rfl, s11, hlr, lrs, hrs⟩
    refine seq_cut (fun σ' H' => ∃ lr rs, σ' = [some (.ref a), some (.int far), some (.ref d), q3, some bv, some (.ref lo), some (.ref lb), q7, some (.int (nm b)), some (.ref lr), none, none] ∧ Same H11 H' ∧ H' lr = some (.lst rs) ∧ rs.length = 23 ∧ ∀ v ∈ rs, BadR K H' b v) (fun N hN => ?_) ?_
    · unfold L2.tAsg L2.tOp
      refine ⟨_, rfl, giv_lst (n := 9) (Pr := fun H v => BadR K H b v) ?gl12 (fun _ _ _ e h => BadR.same e h) (by decide) _ _ (fun p vs H' s l ps np hp => ⟨_, _, _, _, rfl, rfl, s _ _ hlr, hp, small_size (by omega), fun p2 np2 => hN _ _ ⟨p2, _, rfl, s.trans (same_upd np2), upd_same, by rw [List.length_append]; omega, fun v hv => ?_⟩⟩)⟩
      case gl12 => exact (givL_cons (fun _ _ _ e h => BadR.same e h)
        (fun H Q k => ⟨_, rfl, _, rfl, _, _, rfl, rfl, small_size (by show 2 ≤ 16000000; decide), fun p np => k _ _ (same_upd np) (br_i [1, nm b + far] SqL.new rfl (by show 2 ≤ 1000000; decide) (fun r => absurd (r.1 (nm b + far) (List.mem_cons_of_mem _ List.mem_cons_self)).2 (by omega)))⟩)
        (givL_cons (fun _ _ _ e h => BadR.same e h)
        (fun H Q k => ⟨small_size (by show 1 ≤ 16000000; decide), fun p1 n1 => ⟨small_size (by show 1 ≤ 16000000; decide), fun p np => k _ _ ((same_upd n1).trans (same_upd np)) (br_1 SqL.new (nn_lst (same_upd np _ _ upd_same)))⟩⟩)
        (givL_cons (fun _ _ _ e h => BadR.same e h)
        (fun H Q k => ⟨small_size (by show 2 ≤ 16000000; decide), fun p np => k _ _ (same_upd np) (br_2' SqL.new nn_bl)⟩)
        (givL_cons (fun _ _ _ e h => BadR.same e h)
        (fun H Q k => ⟨small_size (by show 2 ≤ 16000000; decide), fun p np => k _ _ (same_upd np) (br_i [0, 0] SqL.new rfl (by show 2 ≤ 1000000; decide) (fun r => r.2 0 rfl rfl))⟩)
        (givL_cons (fun _ _ _ e h => BadR.same e h)
        (fun H Q k => ⟨small_size (by show 3 ≤ 16000000; decide), fun p np => k _ _ (same_upd np) (br_i [1, 1, 0] SqL.new rfl (by show 3 ≤ 1000000; decide) (fun r => r.2 0 rfl rfl))⟩)
        (givL_cons (fun _ _ _ e h => BadR.same e h)
        (fun H Q k => ⟨small_size (by show 1 ≤ 16000000; decide), fun p1 n1 => ⟨small_size (by show 1 ≤ 16000000; decide), fun p np => k _ _ ((same_upd n1).trans (same_upd np)) (br_1 SqL.new (nn_tup (same_upd np _ _ upd_same)))⟩⟩)
        (givL_cons (fun _ _ _ e h => BadR.same e h)
        (fun H Q k => ⟨small_size (by show 2 ≤ 16000000; decide), fun p np => k _ _ (same_upd np) (br_2 SqL.new nn_bl)⟩)
        (givL_cons (fun _ _ _ e h => BadR.same e h)
        (fun H Q k => ⟨small_size (by show 2 ≤ 16000000; decide), fun p np => k _ _ (same_upd np) (br_2 SqL.new nn_bl)⟩)
        (givL_cons (fun _ _ _ e h => BadR.same e h)
        (fun H Q k => ⟨small_size (by show 2 ≤ 16000000; decide), fun p np => k _ _ (same_upd np) (br_2 SqL.new nn_non)⟩)
        givL_nil)))))))))
      have s6 : Same H' _ := same_upd (o := .lst (rs ++ vs)) np2
      rcases List.mem_append.mp hv with hv | hv
      · exact (hrs v hv).same (s.trans s6)
      · exact (ps v hv).same s6
    clear hlr lrs hrs lr rs
    rintro σ' H12 ⟨lr, rs, rfl, s12, hlr, lrs, hrs⟩
    have s912 := s11.trans s12
    refine seq_cut (fun σ' H' => σ' = [some (.ref a), some (.int far), some (.ref d), q3, some bv, some (.ref lo), some (.ref lb), q7, some (.int (nm b)), some (.ref lr), none, none] ∧ Same H12 H') (fun N hN => ?_) ?_
    · walk_at "rd"
      have hx0 := SqL.of (K := K) hlr
      refine ⟨_, rfl, lr, rfl, ⟨rs, hx0⟩, fun D hD => lc_map (K := K) (xs := rs) ((rs.map fun _ => true).map V.bl) (by rw [List.length_map, List.length_map]) (by omega) hx0 hD (fun j x y H1 R hx hy s1 r => ?_) (fun H1 s1 hL => ⟨D, _, rfl, SqL.of hL, _, rfl, ?_⟩)⟩
      · rw [List.getElem?_map, List.getElem?_map] at hy
        rw [hx] at hy
        obtain rfl := (Option.some.inj hy).symm
        have hrx := (hrs x (List.mem_of_getElem? hx)).same s1
        walk_at "rd"
        refine ⟨fr, _, _, _, rfl, x_fr, C3, false, false, true, false, false, Z.e3, Z.k3, fun Q' E' hE => ⟨_, _, rfl, b, hbv9.same (s912.trans s1), hb, hrx, hE⟩, fun e H2 s2 he => due_eq 2 (by decide) (hd9.same (s912.trans s1)) s2 he (r _ s2)⟩
      · rw [all_true]
        exact ifF rfl (hN _ _ ⟨rfl, s1⟩)
    rintro σ' H13 ⟨rfl, s13⟩
    have s913 := s912.trans s13
    refine seq_cut (fun σ' H' => ∃ ln zs, σ' = [some (.ref a), some (.int far), some (.ref d), q3, some bv, some (.ref lo), some (.ref lb), q7, some (.int (nm b)), some (.ref lr), some (.ref ln), none] ∧ Same H13 H' ∧ H' ln = some (.lst zs) ∧ zs.length = 7 ∧ ∀ v ∈ zs, BadN K H' v) (fun N hN => ?_) ?_
    · unfold L2.tAsg
      refine giv_lst (n := 7) (Pr := BadN K) ?gl14 (fun _ _ _ e h => BadN.same e h) (by decide) _ _ (fun p vs H' s l ps np hp => hN _ _ ⟨p, vs, rfl, s, hp, l, ps⟩)
      exact (givL_cons (fun _ _ _ e h => BadN.same e h)
        (fun H Q k => k _ _ (Same.refl _) (.inl nn_non))
        (givL_cons (fun _ _ _ e h => BadN.same e h)
        (fun H Q k => k _ _ (Same.refl _) (.inl nn_str))
        (givL_cons (fun _ _ _ e h => BadN.same e h)
        (fun H Q k => k _ _ (Same.refl _) (.inl nn_bl))
        (givL_cons (fun _ _ _ e h => BadN.same e h)
        (fun H Q k => ⟨_, rfl, k _ _ (Same.refl _) (.inr ⟨_, rfl, by decide⟩)⟩)
        (givL_cons (fun _ _ _ e h => BadN.same e h)
        (fun H Q k => ⟨_, rfl, _, rfl, _, _, rfl, rfl, k _ _ (Same.refl _) (.inr ⟨-1 - far, rfl, by omega⟩)⟩)
        (givL_cons (fun _ _ _ e h => BadN.same e h)
        (fun H Q k => ⟨small_size (by show 1 ≤ 16000000; decide), fun p np => k _ _ (same_upd np) (.inl (nn_lst upd_same))⟩)
        (givL_cons (fun _ _ _ e h => BadN.same e h)
        (fun H Q k => ⟨small_size (by show 1 ≤ 16000000; decide), fun p np => k _ _ (same_upd np) (.inl (nn_tup upd_same))⟩)
        givL_nil)))))))
    rintro σ' H14 ⟨ln, zs, rfl, s14, hln, lzs, hzs⟩
    have s914 := s913.trans s14
    refine seq_cut (fun σ' H' => σ' = [some (.ref a), some (.int far), some (.ref d), q3, some bv, some (.ref lo), some (.ref lb), q7, some (.int (nm b)), some (.ref lr), some (.ref ln), none] ∧ Same H14 H') (fun N hN => ?_) ?_
    · walk_at "rd"
      have hx0 := SqL.of (K := K) hln
      refine ⟨_, rfl, ln, rfl, ⟨zs, hx0⟩, fun D hD => lc_map (K := K) (xs := zs) ((zs.map fun _ => true).map V.bl) (by rw [List.length_map, List.length_map]) (by omega) hx0 hD (fun j x y H1 R hx hy s1 r => ?_) (fun H1 s1 hL => ⟨D, _, rfl, SqL.of hL, _, rfl, ?_⟩)⟩
      · rw [List.getElem?_map, List.getElem?_map] at hy
        rw [hx] at hy
        obtain rfl := (Option.some.inj hy).symm
        have hzx := (hzs x (List.mem_of_getElem? hx)).same s1
        walk_at "rd"
        refine ⟨fn, _, _, _, rfl, x_fn, C4, false, false, false, true, false, Z.e4, Z.k4, fun Q' E' hE => ⟨_, _, rfl, ⟨b, hbv9.same (s914.trans s1), hb⟩, hzx, hE⟩, fun e H2 s2 he => due_eq 3 (by decide) (hd9.same (s914.trans s1)) s2 he (r _ s2)⟩
      · rw [all_true]
        exact ifF rfl (hN _ _ ⟨rfl, s1⟩)
    rintro σ' H15 ⟨rfl, s15⟩
    have s915 := s914.trans s15
    have sz : (2 : Nat) ≤ sizeLine := small_size (by decide)
    refine seq_cut (fun σ' H' => σ' = [some (.ref a), some (.int far), some (.ref d), q3, some bv, some (.ref lo), some (.ref lb), q7, some (.int (nm b)), some (.ref lr), some (.ref ln), none] ∧ Same H15 H') (fun N hN => ?_) ?_
    · walk_at "rd"
      refine ⟨sz, fun p1 np1 => ⟨sz, fun p2 np2 => ⟨sz, fun p3 np3 => ?_⟩⟩⟩
      have t1 : Same H15 _ := same_upd (o := .tup [V.int 1, V.int 1]) np1
      have t2 := same_upd (o := .tup [V.int 4, V.ref p1]) np2
      have t3 := same_upd (o := .tup [V.int 0, V.int 1]) np3
      have bm : isB (1, 1) = true := by decide
      obtain ⟨m, n, c, dn⟩ := cyc_ok bm (p := (0, 1)) (by decide) (by decide)
      have stays : ∀ k, orb (1, 1) (0, 1) k = (0, 1) := fun k => by
        induction k with
        | zero => rfl
        | succ k ih =>
          show nxt (1, 1) (orb (1, 1) (0, 1) k) = (0, 1)
          rw [ih]
          decide +kernel
      have no : ¬ ∃ k, Ends0 (1, 1) (0, 1) k := fun ⟨k, hk⟩ => by
        have := hk.1
        rw [stays] at this
        cases this
      refine ⟨fp, _, _, _, rfl, x_fp, CV, false, false, false, false, true, Z.e5, Z.k5, fun Q' E' hE => ⟨_, _, rfl, p2, 4, .ref p1, rfl, SqT.same t3 SqT.new, by decide, by decide, .inr ⟨rfl, (1, 1), (0, 1), m, n, Pa.same t3 (Pa.same t2 Pa.new), bm, Pa.new, no, c, dn, hE⟩⟩, fun e H2 s2 he => ?_⟩
      have t13 := t1.trans (t2.trans t3)
      obtain ⟨xs, x2, h1, h2, h3, h4⟩ := due_at (j := 4) (by decide) (hd9.same (s915.trans t13)) s2 he
      refine ⟨xs, h1, x2, h2, _, _, h3, h4, bD_shaped 4, bD_shaped 4, ?_⟩
      rw [bD_eqv]
      exact ⟨_, rfl, ifF rfl (hN _ _ ⟨rfl, t13.trans s2⟩)⟩
    rintro σ' H16 ⟨rfl, s16⟩
    have hbv16 := hbv9.same (s915.trans s16)
    have row1 : ∀ z : Int, 0 < z → z < nm b → rowOk b [z] := fun z z0 z1 => ⟨fun y hy => by
      obtain rfl := List.mem_singleton.mp hy
      exact ⟨by omega, z1⟩, fun y hy => by
      have e : z = y := Option.some.inj hy
      omega⟩
    have rd1 : ∀ z : Int, rd b [z] = (z, 0) := fun z => by
      unfold rd rd tm
      simp
    have n2 := g.two
    have sz1 : (1 : Nat) ≤ sizeLine := small_size (by decide)
    walk_at "rd"
    refine ⟨sz, fun p1 np1 => ⟨_, rfl, (30, 29), Pa.new, by decide +kernel, rfl, ifF (by decide +kernel) ⟨sz, fun p2 np2 => ⟨_, rfl, (0 - 1, 1), Pa.new, by decide +kernel, rfl, ifF (by decide +kernel) ?_⟩⟩⟩⟩
    have t1 : Same H16 _ := same_upd (o := .tup [V.int 30, V.int 29]) np1
    have t2 := same_upd (o := .tup [V.int (0 - 1), V.int 1]) np2
    have hbv17 := hbv16.same (t1.trans t2)
    refine ⟨sz1, fun p3 np3 => ?_⟩
    have t3 := same_upd (o := .lst [V.int 1]) np3
    refine ⟨_, _, rfl, b, p3, [1], hbv17.same t3, hb, rfl, SqL.new, by decide, row1 1 (by decide) (by omega), fun x1 H17 s17 hx1 => ⟨sz, fun p4 np4 => ?_⟩⟩
    rw [rd1] at hx1
    have t4 := same_upd (o := .tup [V.int 1, V.int 0]) np4
    refine ⟨_, _, (hx1.same t4).dp, Pa.dp (p := (1, 0)) Pa.new, pD_shaped _, pD_shaped _, ?_⟩
    rw [pD_eqv, decide_eq_true rfl]
    refine ⟨_, rfl, ifF rfl ⟨small_size (by decide), fun p5 np5 => ?_⟩⟩
    have t5 := same_upd (o := .lst []) np5
    refine ⟨_, _, rfl, b, p5, [], hbv17.same (t3.trans (s17.trans (t4.trans t5))), hb, rfl, SqL.new, by decide, ⟨fun y hy => (by cases hy), fun y hy => (by cases hy)⟩, fun x2 H18 s18 hx2 => ⟨sz, fun p6 np6 => ?_⟩⟩
    have t6 := same_upd (o := .tup [V.int 0, V.int 0]) np6
    refine ⟨_, _, (hx2.same t6).dp, Pa.dp (p := (0, 0)) Pa.new, pD_shaped _, pD_shaped _, ?_⟩
    rw [pD_eqv, decide_eq_true (show rd b [] = (0, 0) from rfl)]
    refine ⟨_, rfl, ifF rfl ⟨sz1, fun p7 np7 => ?_⟩⟩
    have t7 := same_upd (o := .lst [V.int (nm b - 1)]) np7
    have t16 := t3.trans (s17.trans (t4.trans (t5.trans (s18.trans (t6.trans t7)))))
    refine ⟨_, _, rfl, b, p7, [nm b - 1], hbv17.same t16, hb, rfl, SqL.new, by show 1 ≤ 1000000; decide, row1 _ (by omega) (by omega), fun x3 H19 s19 hx3 => ⟨sz, fun p8 np8 => ?_⟩⟩
    rw [rd1] at hx3
    have t8 := same_upd (o := .tup [V.int (nm b - 1), V.int 0]) np8
    refine ⟨_, _, (hx3.same t8).dp, Pa.dp (p := (nm b - 1, 0)) Pa.new, pD_shaped _, pD_shaped _, ?_⟩
    rw [pD_eqv, decide_eq_true rfl]
    have t19 := s19.trans t8
    refine ⟨_, rfl, ifT rfl ⟨_, _, rfl, b, 1, hbv17.same (t16.trans t19), hb, rfl, by decide, by decide, fun x4 H20 s20 hx4 => ⟨sz, fun p9 np9 => ?_⟩⟩⟩
    have d1 : dig (nm b) 1 = [1] := by
      rw [dig_step n2 (by decide), Int.emod_eq_of_lt (by decide) (by omega), Int.ediv_eq_zero_of_lt (by decide) (by omega), dig_zero _ (by decide)]
    rw [d1, rd1] at hx4
    have t9 := same_upd (o := .tup [V.int 1, V.int 0]) np9
    refine ⟨_, _, (hx4.same t9).dp, Pa.dp (p := (1, 0)) Pa.new, pD_shaped _, pD_shaped _, ?_⟩
    rw [pD_eqv, decide_eq_true rfl]
    exact q _ (s1.trans (s3.trans (s4.trans (s5.trans (s58.trans (s9.trans (s915.trans (s16.trans (t1.trans (t2.trans (t16.trans (t19.trans (s20.trans t9)))))))))))))
end
end Pb
set_option Elab.async false
set_option linter.all false
set_option maxRecDepth 100000
set_option maxHeartbeats 4000000
namespace Pb
open PySem PySem.Spec PyProof.Rows L2
theorem all_mk {l : PySem.W.OpenLaw} {w : World} {K : PySem.W.Frag} {h : Heap} {mg : Str → Option Value} {fa : Addr} (X : K.In h) (G : h.Ns mainGlobals mg) (hfa : mg "law" = some (.ref fa))
    {CT : Addr}
    {CR : Addr}
    {CB C1 C2 C3 C4 CV : Addr}
    {f__law_draw : Addr} {oc__law_draw kV__law_draw dc__law_draw pm__law_draw cd__law_draw ct__law_draw : Value} {od__law_draw an__law_draw : Option Addr} {sl__law_draw : Array (Option Value)}
    {f__law_value : Addr} {oc__law_value kV__law_value dc__law_value pm__law_value cd__law_value ct__law_value : Value} {od__law_value an__law_value : Option Addr} {sl__law_value : Array (Option Value)}
    {f__law_cell_at : Addr} {oc__law_cell_at kV__law_cell_at dc__law_cell_at pm__law_cell_at cd__law_cell_at ct__law_cell_at : Value} {od__law_cell_at an__law_cell_at : Option Addr} {sl__law_cell_at : Array (Option Value)}
    {f__law_common : Addr} {oc__law_common kV__law_common dc__law_common pm__law_common cd__law_common ct__law_common : Value} {od__law_common an__law_common : Option Addr} {sl__law_common : Array (Option Value)}
    {f__law_base : Addr} {oc__law_base kV__law_base dc__law_base pm__law_base cd__law_base ct__law_base : Value} {od__law_base an__law_base : Option Addr} {sl__law_base : Array (Option Value)}
    {f__law_size : Addr} {oc__law_size kV__law_size dc__law_size pm__law_size cd__law_size ct__law_size : Value} {od__law_size an__law_size : Option Addr} {sl__law_size : Array (Option Value)}
    {f_is_number : Addr} {oc_is_number kV_is_number dc_is_number pm_is_number cd_is_number ct_is_number : Value} {od_is_number an_is_number : Option Addr} {sl_is_number : Array (Option Value)}
    {f_is_pair : Addr} {oc_is_pair kV_is_pair dc_is_pair pm_is_pair cd_is_pair ct_is_pair : Value} {od_is_pair an_is_pair : Option Addr} {sl_is_pair : Array (Option Value)}
    {f_squares : Addr} {oc_squares kV_squares dc_squares pm_squares cd_squares ct_squares : Value} {od_squares an_squares : Option Addr} {sl_squares : Array (Option Value)}
    {f_is_base : Addr} {oc_is_base kV_is_base dc_is_base pm_is_base cd_is_base ct_is_base : Value} {od_is_base an_is_base : Option Addr} {sl_is_base : Array (Option Value)}
    {f_need_base : Addr} {oc_need_base kV_need_base dc_need_base pm_need_base cd_need_base ct_need_base : Value} {od_need_base an_need_base : Option Addr} {sl_need_base : Array (Option Value)}
    {f_size : Addr} {oc_size kV_size dc_size pm_size cd_size ct_size : Value} {od_size an_size : Option Addr} {sl_size : Array (Option Value)}
    {f_is_row : Addr} {oc_is_row kV_is_row dc_is_row pm_is_row cd_is_row ct_is_row : Value} {od_is_row an_is_row : Option Addr} {sl_is_row : Array (Option Value)}
    {f_need_pair : Addr} {oc_need_pair kV_need_pair dc_need_pair pm_need_pair cd_need_pair ct_need_pair : Value} {od_need_pair an_need_pair : Option Addr} {sl_need_pair : Array (Option Value)}
    {f_times : Addr} {oc_times kV_times dc_times pm_times cd_times ct_times : Value} {od_times an_times : Option Addr} {sl_times : Array (Option Value)}
    {f_pair_of : Addr} {oc_pair_of kV_pair_of dc_pair_of pm_pair_of cd_pair_of ct_pair_of : Value} {od_pair_of an_pair_of : Option Addr} {sl_pair_of : Array (Option Value)}
    {f_read : Addr} {oc_read kV_read dc_read pm_read cd_read ct_read : Value} {od_read an_read : Option Addr} {sl_read : Array (Option Value)}
    {f_pair_by : Addr} {oc_pair_by kV_pair_by dc_pair_by pm_pair_by cd_pair_by ct_pair_by : Value} {od_pair_by an_pair_by : Option Addr} {sl_pair_by : Array (Option Value)}
    {f_inverse : Addr} {oc_inverse kV_inverse dc_inverse pm_inverse cd_inverse ct_inverse : Value} {od_inverse an_inverse : Option Addr} {sl_inverse : Array (Option Value)}
    {f_like_second_unit : Addr} {oc_like_second_unit kV_like_second_unit dc_like_second_unit pm_like_second_unit cd_like_second_unit ct_like_second_unit : Value} {od_like_second_unit an_like_second_unit : Option Addr} {sl_like_second_unit : Array (Option Value)}
    {f_step : Addr} {oc_step kV_step dc_step pm_step cd_step ct_step : Value} {od_step an_step : Option Addr} {sl_step : Array (Option Value)}
    {f_round_from : Addr} {oc_round_from kV_round_from dc_round_from pm_round_from cd_round_from ct_round_from : Value} {od_round_from an_round_from : Option Addr} {sl_round_from : Array (Option Value)}
    {f_round_of : Addr} {oc_round_of kV_round_of dc_round_of pm_round_of cd_round_of ct_round_of : Value} {od_round_of an_round_of : Option Addr} {sl_round_of : Array (Option Value)}
    {f_row_of : Addr} {oc_row_of kV_row_of dc_row_of pm_row_of cd_row_of ct_row_of : Value} {od_row_of an_row_of : Option Addr} {sl_row_of : Array (Option Value)}
    {f_Told___init__ : Addr} {oc_Told___init__ kV_Told___init__ dc_Told___init__ pm_Told___init__ cd_Told___init__ ct_Told___init__ : Value} {od_Told___init__ an_Told___init__ : Option Addr} {sl_Told___init__ : Array (Option Value)}
    {f_Round___init__ : Addr} {oc_Round___init__ kV_Round___init__ dc_Round___init__ pm_Round___init__ cd_Round___init__ ct_Round___init__ : Value} {od_Round___init__ an_Round___init__ : Option Addr} {sl_Round___init__ : Array (Option Value)}
    {f_told : Addr} {oc_told kV_told dc_told pm_told cd_told ct_told : Value} {od_told an_told : Option Addr} {sl_told : Array (Option Value)}
    {f_tells_all : Addr} {oc_tells_all kV_tells_all dc_tells_all pm_tells_all cd_tells_all ct_tells_all : Value} {od_tells_all an_tells_all : Option Addr} {sl_tells_all : Array (Option Value)}
    {f_number_of : Addr} {oc_number_of kV_number_of dc_number_of pm_number_of cd_number_of ct_number_of : Value} {od_number_of an_number_of : Option Addr} {sl_number_of : Array (Option Value)}
    {f_all_told : Addr} {oc_all_told kV_all_told dc_all_told pm_all_told cd_all_told ct_all_told : Value} {od_all_told an_all_told : Option Addr} {sl_all_told : Array (Option Value)}
    {f__law_kinds : Addr} {oc__law_kinds kV__law_kinds dc__law_kinds pm__law_kinds cd__law_kinds ct__law_kinds : Value} {od__law_kinds an__law_kinds : Option Addr} {sl__law_kinds : Array (Option Value)}
    {f__law_with_base : Addr} {oc__law_with_base kV__law_with_base dc__law_with_base pm__law_with_base cd__law_with_base ct__law_with_base : Value} {od__law_with_base an__law_with_base : Option Addr} {sl__law_with_base : Array (Option Value)}
    {f__law_with_pair : Addr} {oc__law_with_pair kV__law_with_pair dc__law_with_pair pm__law_with_pair cd__law_with_pair ct__law_with_pair : Value} {od__law_with_pair an__law_with_pair : Option Addr} {sl__law_with_pair : Array (Option Value)}
    {f__law_with_row : Addr} {oc__law_with_row kV__law_with_row dc__law_with_row pm__law_with_row cd__law_with_row ct__law_with_row : Value} {od__law_with_row an__law_with_row : Option Addr} {sl__law_with_row : Array (Option Value)}
    {f__law_with_number : Addr} {oc__law_with_number kV__law_with_number dc__law_with_number pm__law_with_number cd__law_with_number ct__law_with_number : Value} {od__law_with_number an__law_with_number : Option Addr} {sl__law_with_number : Array (Option Value)}
    {f__law_told : Addr} {oc__law_told kV__law_told dc__law_told pm__law_told cd__law_told ct__law_told : Value} {od__law_told an__law_told : Option Addr} {sl__law_told : Array (Option Value)}
    {f_law : Addr} {oc_law kV_law dc_law pm_law cd_law ct_law : Value} {od_law an_law : Option Addr} {sl_law : Array (Option Value)}
    {tL tS tO tP : _}
    {oa : Addr} {odO : Option Addr} {nO : _} {slO : Array (Option Value)}
    (gCCT : PySem.W.nsIn K mainGlobals "Told" = some (some (.ref CT)))
    (pgCT : PySem.W.plainGet K CT Str.empty = true)
    (hdCT : PySem.W.hasDictIn K CT = true)
    (poCT : PySem.W.plainOver K CT = true)
    (saCT : PySem.W.findIn K (.ref CT) "__setattr__" = some (some (.builtin "object.__setattr__")))
    (kcCT : PySem.W.keepIn K (.ref CT) = true)
    (haCT : PySem.W.findIn K (.ref CT) "__class__" = some (some (.builtin "object.__class__")))
    (hmCT : PySem.W.mroIn K CT (.type "object") = some true)
    (isCT : PySem.W.isClsIn K CT = true)
    (tyCT : PySem.W.typeIn K (.ref CT) = some (.type "type"))
    (naCT : PySem.W.findIn K (.ref CT) "row" = some none)
    (mkCT : PySem.W.makesIn K CT = true)
    (gCCR : PySem.W.nsIn K mainGlobals "Round" = some (some (.ref CR)))
    (pgCR : PySem.W.plainGet K CR Str.empty = true)
    (hdCR : PySem.W.hasDictIn K CR = true)
    (poCR : PySem.W.plainOver K CR = true)
    (saCR : PySem.W.findIn K (.ref CR) "__setattr__" = some (some (.builtin "object.__setattr__")))
    (kcCR : PySem.W.keepIn K (.ref CR) = true)
    (haCR : PySem.W.findIn K (.ref CR) "__class__" = some (some (.builtin "object.__class__")))
    (hmCR : PySem.W.mroIn K CR (.type "object") = some true)
    (isCR : PySem.W.isClsIn K CR = true)
    (tyCR : PySem.W.typeIn K (.ref CR) = some (.type "type"))
    (naCR : PySem.W.findIn K (.ref CR) "pairs" = some none)
    (mkCR : PySem.W.makesIn K CR = true)
    (gnC1 : PySem.W.nsIn K mainGlobals "BadBase" = some (some (.ref C1)))
    (gnC2 : PySem.W.nsIn K mainGlobals "BadPair" = some (some (.ref C2)))
    (gnC3 : PySem.W.nsIn K mainGlobals "BadRow" = some (some (.ref C3)))
    (gnC4 : PySem.W.nsIn K mainGlobals "BadNumber" = some (some (.ref C4)))
    (gnCV : PySem.W.nsIn K mainGlobals "Never" = some (some (.ref CV)))
    (gnCB : PySem.W.nsIn K mainGlobals "BaseError" = some (some (.ref CB)))
    (z_ValueError : PySem.W.nsIn K mainGlobals "ValueError" = some none)
    (bCB : PySem.W.subIn K (.ref CB) (.type "BaseException") = some true)
    (hdCB : PySem.W.hasDictIn K CB = true)
    (tCB : PySem.W.typeIn K (.ref CB) = some (.type "type"))
    (xC1 : PySem.W.excIn K C1 [.type "ValueError", .type "Exception", .type "BaseException", .type "object"] "ValueError.__new__" = true)
    (kC1 : PySem.W.keepIn K (.ref C1) = true)
    (bC1 : PySem.W.subIn K (.ref C1) (.type "BaseException") = some true)
    (tC1 : PySem.W.typeIn K (.ref C1) = some (.type "type"))
    (sbC1CB : PySem.W.subIn K (.ref C1) (.ref CB) = some true)
    (svC1 : PySem.W.subIn K (.ref C1) (.type "ValueError") = some true)
    (hgC1 : PySem.W.findIn K (.ref C1) "__getattribute__" = some (some (.builtin "BaseException.__getattribute__")))
    (hkC1 : PySem.W.findIn K (.ref C1) "__getattr__" = some none)
    (hdC1 : PySem.W.hasDictIn K C1 = true)
    (haC1 : PySem.W.findIn K (.ref C1) "__class__" = some (some (.builtin "object.__class__")))
    (hmC1 : PySem.W.mroIn K C1 (.type "object") = some true)
    (isC1 : PySem.W.isClsIn K C1 = true)
    (sbC1C2 : PySem.W.subIn K (.ref C1) (.ref C2) = some false)
    (neC1C2 : C1 ≠ C2)
    (sbC1C3 : PySem.W.subIn K (.ref C1) (.ref C3) = some false)
    (neC1C3 : C1 ≠ C3)
    (sbC1C4 : PySem.W.subIn K (.ref C1) (.ref C4) = some false)
    (neC1C4 : C1 ≠ C4)
    (sbC1CV : PySem.W.subIn K (.ref C1) (.ref CV) = some false)
    (neC1CV : C1 ≠ CV)
    (xC2 : PySem.W.excIn K C2 [.type "ValueError", .type "Exception", .type "BaseException", .type "object"] "ValueError.__new__" = true)
    (kC2 : PySem.W.keepIn K (.ref C2) = true)
    (bC2 : PySem.W.subIn K (.ref C2) (.type "BaseException") = some true)
    (tC2 : PySem.W.typeIn K (.ref C2) = some (.type "type"))
    (sbC2CB : PySem.W.subIn K (.ref C2) (.ref CB) = some true)
    (svC2 : PySem.W.subIn K (.ref C2) (.type "ValueError") = some true)
    (hgC2 : PySem.W.findIn K (.ref C2) "__getattribute__" = some (some (.builtin "BaseException.__getattribute__")))
    (hkC2 : PySem.W.findIn K (.ref C2) "__getattr__" = some none)
    (hdC2 : PySem.W.hasDictIn K C2 = true)
    (haC2 : PySem.W.findIn K (.ref C2) "__class__" = some (some (.builtin "object.__class__")))
    (hmC2 : PySem.W.mroIn K C2 (.type "object") = some true)
    (isC2 : PySem.W.isClsIn K C2 = true)
    (sbC2C1 : PySem.W.subIn K (.ref C2) (.ref C1) = some false)
    (neC2C1 : C2 ≠ C1)
    (sbC2C3 : PySem.W.subIn K (.ref C2) (.ref C3) = some false)
    (neC2C3 : C2 ≠ C3)
    (sbC2C4 : PySem.W.subIn K (.ref C2) (.ref C4) = some false)
    (neC2C4 : C2 ≠ C4)
    (sbC2CV : PySem.W.subIn K (.ref C2) (.ref CV) = some false)
    (neC2CV : C2 ≠ CV)
    (xC3 : PySem.W.excIn K C3 [.type "ValueError", .type "Exception", .type "BaseException", .type "object"] "ValueError.__new__" = true)
    (kC3 : PySem.W.keepIn K (.ref C3) = true)
    (bC3 : PySem.W.subIn K (.ref C3) (.type "BaseException") = some true)
    (tC3 : PySem.W.typeIn K (.ref C3) = some (.type "type"))
    (sbC3CB : PySem.W.subIn K (.ref C3) (.ref CB) = some true)
    (svC3 : PySem.W.subIn K (.ref C3) (.type "ValueError") = some true)
    (hgC3 : PySem.W.findIn K (.ref C3) "__getattribute__" = some (some (.builtin "BaseException.__getattribute__")))
    (hkC3 : PySem.W.findIn K (.ref C3) "__getattr__" = some none)
    (hdC3 : PySem.W.hasDictIn K C3 = true)
    (haC3 : PySem.W.findIn K (.ref C3) "__class__" = some (some (.builtin "object.__class__")))
    (hmC3 : PySem.W.mroIn K C3 (.type "object") = some true)
    (isC3 : PySem.W.isClsIn K C3 = true)
    (sbC3C1 : PySem.W.subIn K (.ref C3) (.ref C1) = some false)
    (neC3C1 : C3 ≠ C1)
    (sbC3C2 : PySem.W.subIn K (.ref C3) (.ref C2) = some false)
    (neC3C2 : C3 ≠ C2)
    (sbC3C4 : PySem.W.subIn K (.ref C3) (.ref C4) = some false)
    (neC3C4 : C3 ≠ C4)
    (sbC3CV : PySem.W.subIn K (.ref C3) (.ref CV) = some false)
    (neC3CV : C3 ≠ CV)
    (xC4 : PySem.W.excIn K C4 [.type "ValueError", .type "Exception", .type "BaseException", .type "object"] "ValueError.__new__" = true)
    (kC4 : PySem.W.keepIn K (.ref C4) = true)
    (bC4 : PySem.W.subIn K (.ref C4) (.type "BaseException") = some true)
    (tC4 : PySem.W.typeIn K (.ref C4) = some (.type "type"))
    (sbC4CB : PySem.W.subIn K (.ref C4) (.ref CB) = some true)
    (svC4 : PySem.W.subIn K (.ref C4) (.type "ValueError") = some true)
    (hgC4 : PySem.W.findIn K (.ref C4) "__getattribute__" = some (some (.builtin "BaseException.__getattribute__")))
    (hkC4 : PySem.W.findIn K (.ref C4) "__getattr__" = some none)
    (hdC4 : PySem.W.hasDictIn K C4 = true)
    (haC4 : PySem.W.findIn K (.ref C4) "__class__" = some (some (.builtin "object.__class__")))
    (hmC4 : PySem.W.mroIn K C4 (.type "object") = some true)
    (isC4 : PySem.W.isClsIn K C4 = true)
    (sbC4C1 : PySem.W.subIn K (.ref C4) (.ref C1) = some false)
    (neC4C1 : C4 ≠ C1)
    (sbC4C2 : PySem.W.subIn K (.ref C4) (.ref C2) = some false)
    (neC4C2 : C4 ≠ C2)
    (sbC4C3 : PySem.W.subIn K (.ref C4) (.ref C3) = some false)
    (neC4C3 : C4 ≠ C3)
    (sbC4CV : PySem.W.subIn K (.ref C4) (.ref CV) = some false)
    (neC4CV : C4 ≠ CV)
    (xCV : PySem.W.excIn K CV [.type "ValueError", .type "Exception", .type "BaseException", .type "object"] "ValueError.__new__" = true)
    (kCV : PySem.W.keepIn K (.ref CV) = true)
    (bCV : PySem.W.subIn K (.ref CV) (.type "BaseException") = some true)
    (tCV : PySem.W.typeIn K (.ref CV) = some (.type "type"))
    (sbCVCB : PySem.W.subIn K (.ref CV) (.ref CB) = some true)
    (svCV : PySem.W.subIn K (.ref CV) (.type "ValueError") = some true)
    (hgCV : PySem.W.findIn K (.ref CV) "__getattribute__" = some (some (.builtin "BaseException.__getattribute__")))
    (hkCV : PySem.W.findIn K (.ref CV) "__getattr__" = some none)
    (hdCV : PySem.W.hasDictIn K CV = true)
    (haCV : PySem.W.findIn K (.ref CV) "__class__" = some (some (.builtin "object.__class__")))
    (hmCV : PySem.W.mroIn K CV (.type "object") = some true)
    (isCV : PySem.W.isClsIn K CV = true)
    (sbCVC1 : PySem.W.subIn K (.ref CV) (.ref C1) = some false)
    (neCVC1 : CV ≠ C1)
    (sbCVC2 : PySem.W.subIn K (.ref CV) (.ref C2) = some false)
    (neCVC2 : CV ≠ C2)
    (sbCVC3 : PySem.W.subIn K (.ref CV) (.ref C3) = some false)
    (neCVC3 : CV ≠ C3)
    (sbCVC4 : PySem.W.subIn K (.ref CV) (.ref C4) = some false)
    (neCVC4 : CV ≠ C4)
    (hn : PySem.W.specialIn K (.builtin "object.__class__") "__get__" = some (some (.builtin "getset_descriptor.__get__")))
    (tk : PySem.W.takesIn K (.builtin "object.__class__") = some true)
    (n__law_draw : PySem.W.nsIn K mainGlobals "_law_draw" = some (some (.ref f__law_draw)))
    (l__law_draw : K.lookup f__law_draw = some ⟨oc__law_draw, od__law_draw, .func (PySem.W.fnOf "_law_draw" "_law_draw" (defArgs s__law_draw) (defBody s__law_draw) (defScope s__law_draw) .none kV__law_draw dc__law_draw pm__law_draw an__law_draw cd__law_draw ct__law_draw), sl__law_draw⟩)
    (c__law_draw : PySem.W.codeIn K cd__law_draw "_law_draw" = true)
    (k__law_draw : PySem.W.keepIn K (.ref f__law_draw) = true)
    (n__law_value : PySem.W.nsIn K mainGlobals "_law_value" = some (some (.ref f__law_value)))
    (l__law_value : K.lookup f__law_value = some ⟨oc__law_value, od__law_value, .func (PySem.W.fnOf "_law_value" "_law_value" (defArgs s__law_value) (defBody s__law_value) (defScope s__law_value) .none kV__law_value dc__law_value pm__law_value an__law_value cd__law_value ct__law_value), sl__law_value⟩)
    (c__law_value : PySem.W.codeIn K cd__law_value "_law_value" = true)
    (k__law_value : PySem.W.keepIn K (.ref f__law_value) = true)
    (n__law_cell_at : PySem.W.nsIn K mainGlobals "_law_cell_at" = some (some (.ref f__law_cell_at)))
    (l__law_cell_at : K.lookup f__law_cell_at = some ⟨oc__law_cell_at, od__law_cell_at, .func (PySem.W.fnOf "_law_cell_at" "_law_cell_at" (defArgs s__law_cell_at) (defBody s__law_cell_at) (defScope s__law_cell_at) .none kV__law_cell_at dc__law_cell_at pm__law_cell_at an__law_cell_at cd__law_cell_at ct__law_cell_at), sl__law_cell_at⟩)
    (c__law_cell_at : PySem.W.codeIn K cd__law_cell_at "_law_cell_at" = true)
    (k__law_cell_at : PySem.W.keepIn K (.ref f__law_cell_at) = true)
    (n__law_common : PySem.W.nsIn K mainGlobals "_law_common" = some (some (.ref f__law_common)))
    (l__law_common : K.lookup f__law_common = some ⟨oc__law_common, od__law_common, .func (PySem.W.fnOf "_law_common" "_law_common" (defArgs s__law_common) (defBody s__law_common) (defScope s__law_common) .none kV__law_common dc__law_common pm__law_common an__law_common cd__law_common ct__law_common), sl__law_common⟩)
    (c__law_common : PySem.W.codeIn K cd__law_common "_law_common" = true)
    (k__law_common : PySem.W.keepIn K (.ref f__law_common) = true)
    (n__law_base : PySem.W.nsIn K mainGlobals "_law_base" = some (some (.ref f__law_base)))
    (l__law_base : K.lookup f__law_base = some ⟨oc__law_base, od__law_base, .func (PySem.W.fnOf "_law_base" "_law_base" (defArgs s__law_base) (defBody s__law_base) (defScope s__law_base) .none kV__law_base dc__law_base pm__law_base an__law_base cd__law_base ct__law_base), sl__law_base⟩)
    (c__law_base : PySem.W.codeIn K cd__law_base "_law_base" = true)
    (k__law_base : PySem.W.keepIn K (.ref f__law_base) = true)
    (n__law_size : PySem.W.nsIn K mainGlobals "_law_size" = some (some (.ref f__law_size)))
    (l__law_size : K.lookup f__law_size = some ⟨oc__law_size, od__law_size, .func (PySem.W.fnOf "_law_size" "_law_size" (defArgs s__law_size) (defBody s__law_size) (defScope s__law_size) .none kV__law_size dc__law_size pm__law_size an__law_size cd__law_size ct__law_size), sl__law_size⟩)
    (c__law_size : PySem.W.codeIn K cd__law_size "_law_size" = true)
    (k__law_size : PySem.W.keepIn K (.ref f__law_size) = true)
    (n_is_number : PySem.W.nsIn K mainGlobals "is_number" = some (some (.ref f_is_number)))
    (l_is_number : K.lookup f_is_number = some ⟨oc_is_number, od_is_number, .func (PySem.W.fnOf "is_number" "is_number" (defArgs s_is_number) (defBody s_is_number) (defScope s_is_number) .none kV_is_number dc_is_number pm_is_number an_is_number cd_is_number ct_is_number), sl_is_number⟩)
    (c_is_number : PySem.W.codeIn K cd_is_number "is_number" = true)
    (k_is_number : PySem.W.keepIn K (.ref f_is_number) = true)
    (n_is_pair : PySem.W.nsIn K mainGlobals "is_pair" = some (some (.ref f_is_pair)))
    (l_is_pair : K.lookup f_is_pair = some ⟨oc_is_pair, od_is_pair, .func (PySem.W.fnOf "is_pair" "is_pair" (defArgs s_is_pair) (defBody s_is_pair) (defScope s_is_pair) .none kV_is_pair dc_is_pair pm_is_pair an_is_pair cd_is_pair ct_is_pair), sl_is_pair⟩)
    (c_is_pair : PySem.W.codeIn K cd_is_pair "is_pair" = true)
    (k_is_pair : PySem.W.keepIn K (.ref f_is_pair) = true)
    (n_squares : PySem.W.nsIn K mainGlobals "squares" = some (some (.ref f_squares)))
    (l_squares : K.lookup f_squares = some ⟨oc_squares, od_squares, .func (PySem.W.fnOf "squares" "squares" (defArgs s_squares) (defBody s_squares) (defScope s_squares) .none kV_squares dc_squares pm_squares an_squares cd_squares ct_squares), sl_squares⟩)
    (c_squares : PySem.W.codeIn K cd_squares "squares" = true)
    (k_squares : PySem.W.keepIn K (.ref f_squares) = true)
    (n_is_base : PySem.W.nsIn K mainGlobals "is_base" = some (some (.ref f_is_base)))
    (l_is_base : K.lookup f_is_base = some ⟨oc_is_base, od_is_base, .func (PySem.W.fnOf "is_base" "is_base" (defArgs s_is_base) (defBody s_is_base) (defScope s_is_base) .none kV_is_base dc_is_base pm_is_base an_is_base cd_is_base ct_is_base), sl_is_base⟩)
    (c_is_base : PySem.W.codeIn K cd_is_base "is_base" = true)
    (k_is_base : PySem.W.keepIn K (.ref f_is_base) = true)
    (n_need_base : PySem.W.nsIn K mainGlobals "need_base" = some (some (.ref f_need_base)))
    (l_need_base : K.lookup f_need_base = some ⟨oc_need_base, od_need_base, .func (PySem.W.fnOf "need_base" "need_base" (defArgs s_need_base) (defBody s_need_base) (defScope s_need_base) .none kV_need_base dc_need_base pm_need_base an_need_base cd_need_base ct_need_base), sl_need_base⟩)
    (c_need_base : PySem.W.codeIn K cd_need_base "need_base" = true)
    (k_need_base : PySem.W.keepIn K (.ref f_need_base) = true)
    (n_size : PySem.W.nsIn K mainGlobals "size" = some (some (.ref f_size)))
    (l_size : K.lookup f_size = some ⟨oc_size, od_size, .func (PySem.W.fnOf "size" "size" (defArgs s_size) (defBody s_size) (defScope s_size) .none kV_size dc_size pm_size an_size cd_size ct_size), sl_size⟩)
    (c_size : PySem.W.codeIn K cd_size "size" = true)
    (k_size : PySem.W.keepIn K (.ref f_size) = true)
    (n_is_row : PySem.W.nsIn K mainGlobals "is_row" = some (some (.ref f_is_row)))
    (l_is_row : K.lookup f_is_row = some ⟨oc_is_row, od_is_row, .func (PySem.W.fnOf "is_row" "is_row" (defArgs s_is_row) (defBody s_is_row) (defScope s_is_row) .none kV_is_row dc_is_row pm_is_row an_is_row cd_is_row ct_is_row), sl_is_row⟩)
    (c_is_row : PySem.W.codeIn K cd_is_row "is_row" = true)
    (k_is_row : PySem.W.keepIn K (.ref f_is_row) = true)
    (n_need_pair : PySem.W.nsIn K mainGlobals "need_pair" = some (some (.ref f_need_pair)))
    (l_need_pair : K.lookup f_need_pair = some ⟨oc_need_pair, od_need_pair, .func (PySem.W.fnOf "need_pair" "need_pair" (defArgs s_need_pair) (defBody s_need_pair) (defScope s_need_pair) .none kV_need_pair dc_need_pair pm_need_pair an_need_pair cd_need_pair ct_need_pair), sl_need_pair⟩)
    (c_need_pair : PySem.W.codeIn K cd_need_pair "need_pair" = true)
    (k_need_pair : PySem.W.keepIn K (.ref f_need_pair) = true)
    (n_times : PySem.W.nsIn K mainGlobals "times" = some (some (.ref f_times)))
    (l_times : K.lookup f_times = some ⟨oc_times, od_times, .func (PySem.W.fnOf "times" "times" (defArgs s_times) (defBody s_times) (defScope s_times) .none kV_times dc_times pm_times an_times cd_times ct_times), sl_times⟩)
    (c_times : PySem.W.codeIn K cd_times "times" = true)
    (k_times : PySem.W.keepIn K (.ref f_times) = true)
    (n_pair_of : PySem.W.nsIn K mainGlobals "pair_of" = some (some (.ref f_pair_of)))
    (l_pair_of : K.lookup f_pair_of = some ⟨oc_pair_of, od_pair_of, .func (PySem.W.fnOf "pair_of" "pair_of" (defArgs s_pair_of) (defBody s_pair_of) (defScope s_pair_of) .none kV_pair_of dc_pair_of pm_pair_of an_pair_of cd_pair_of ct_pair_of), sl_pair_of⟩)
    (c_pair_of : PySem.W.codeIn K cd_pair_of "pair_of" = true)
    (k_pair_of : PySem.W.keepIn K (.ref f_pair_of) = true)
    (n_read : PySem.W.nsIn K mainGlobals "read" = some (some (.ref f_read)))
    (l_read : K.lookup f_read = some ⟨oc_read, od_read, .func (PySem.W.fnOf "read" "read" (defArgs s_read) (defBody s_read) (defScope s_read) .none kV_read dc_read pm_read an_read cd_read ct_read), sl_read⟩)
    (c_read : PySem.W.codeIn K cd_read "read" = true)
    (k_read : PySem.W.keepIn K (.ref f_read) = true)
    (n_pair_by : PySem.W.nsIn K mainGlobals "pair_by" = some (some (.ref f_pair_by)))
    (l_pair_by : K.lookup f_pair_by = some ⟨oc_pair_by, od_pair_by, .func (PySem.W.fnOf "pair_by" "pair_by" (defArgs s_pair_by) (defBody s_pair_by) (defScope s_pair_by) .none kV_pair_by dc_pair_by pm_pair_by an_pair_by cd_pair_by ct_pair_by), sl_pair_by⟩)
    (c_pair_by : PySem.W.codeIn K cd_pair_by "pair_by" = true)
    (k_pair_by : PySem.W.keepIn K (.ref f_pair_by) = true)
    (n_inverse : PySem.W.nsIn K mainGlobals "inverse" = some (some (.ref f_inverse)))
    (l_inverse : K.lookup f_inverse = some ⟨oc_inverse, od_inverse, .func (PySem.W.fnOf "inverse" "inverse" (defArgs s_inverse) (defBody s_inverse) (defScope s_inverse) .none kV_inverse dc_inverse pm_inverse an_inverse cd_inverse ct_inverse), sl_inverse⟩)
    (c_inverse : PySem.W.codeIn K cd_inverse "inverse" = true)
    (k_inverse : PySem.W.keepIn K (.ref f_inverse) = true)
    (n_like_second_unit : PySem.W.nsIn K mainGlobals "like_second_unit" = some (some (.ref f_like_second_unit)))
    (l_like_second_unit : K.lookup f_like_second_unit = some ⟨oc_like_second_unit, od_like_second_unit, .func (PySem.W.fnOf "like_second_unit" "like_second_unit" (defArgs s_like_second_unit) (defBody s_like_second_unit) (defScope s_like_second_unit) .none kV_like_second_unit dc_like_second_unit pm_like_second_unit an_like_second_unit cd_like_second_unit ct_like_second_unit), sl_like_second_unit⟩)
    (c_like_second_unit : PySem.W.codeIn K cd_like_second_unit "like_second_unit" = true)
    (k_like_second_unit : PySem.W.keepIn K (.ref f_like_second_unit) = true)
    (n_step : PySem.W.nsIn K mainGlobals "step" = some (some (.ref f_step)))
    (l_step : K.lookup f_step = some ⟨oc_step, od_step, .func (PySem.W.fnOf "step" "step" (defArgs s_step) (defBody s_step) (defScope s_step) .none kV_step dc_step pm_step an_step cd_step ct_step), sl_step⟩)
    (c_step : PySem.W.codeIn K cd_step "step" = true)
    (k_step : PySem.W.keepIn K (.ref f_step) = true)
    (n_round_from : PySem.W.nsIn K mainGlobals "round_from" = some (some (.ref f_round_from)))
    (l_round_from : K.lookup f_round_from = some ⟨oc_round_from, od_round_from, .func (PySem.W.fnOf "round_from" "round_from" (defArgs s_round_from) (defBody s_round_from) (defScope s_round_from) .none kV_round_from dc_round_from pm_round_from an_round_from cd_round_from ct_round_from), sl_round_from⟩)
    (c_round_from : PySem.W.codeIn K cd_round_from "round_from" = true)
    (k_round_from : PySem.W.keepIn K (.ref f_round_from) = true)
    (n_round_of : PySem.W.nsIn K mainGlobals "round_of" = some (some (.ref f_round_of)))
    (l_round_of : K.lookup f_round_of = some ⟨oc_round_of, od_round_of, .func (PySem.W.fnOf "round_of" "round_of" (defArgs s_round_of) (defBody s_round_of) (defScope s_round_of) .none kV_round_of dc_round_of pm_round_of an_round_of cd_round_of ct_round_of), sl_round_of⟩)
    (c_round_of : PySem.W.codeIn K cd_round_of "round_of" = true)
    (k_round_of : PySem.W.keepIn K (.ref f_round_of) = true)
    (n_row_of : PySem.W.nsIn K mainGlobals "row_of" = some (some (.ref f_row_of)))
    (l_row_of : K.lookup f_row_of = some ⟨oc_row_of, od_row_of, .func (PySem.W.fnOf "row_of" "row_of" (defArgs s_row_of) (defBody s_row_of) (defScope s_row_of) .none kV_row_of dc_row_of pm_row_of an_row_of cd_row_of ct_row_of), sl_row_of⟩)
    (c_row_of : PySem.W.codeIn K cd_row_of "row_of" = true)
    (k_row_of : PySem.W.keepIn K (.ref f_row_of) = true)
    (a_Told___init__ : PySem.W.findIn K (.ref CT) "__init__" = some (some (.ref f_Told___init__)))
    (i_Told___init__ : PySem.W.isFn K (.ref f_Told___init__) = true)
    (l_Told___init__ : K.lookup f_Told___init__ = some ⟨oc_Told___init__, od_Told___init__, .func (PySem.W.fnOf "__init__" "Told.__init__" (defArgs s_Told___init__) (defBody s_Told___init__) (defScope s_Told___init__) .none kV_Told___init__ dc_Told___init__ pm_Told___init__ an_Told___init__ cd_Told___init__ ct_Told___init__), sl_Told___init__⟩)
    (c_Told___init__ : PySem.W.codeIn K cd_Told___init__ "Told.__init__" = true)
    (k_Told___init__ : PySem.W.keepIn K (.ref f_Told___init__) = true)
    (a_Round___init__ : PySem.W.findIn K (.ref CR) "__init__" = some (some (.ref f_Round___init__)))
    (i_Round___init__ : PySem.W.isFn K (.ref f_Round___init__) = true)
    (l_Round___init__ : K.lookup f_Round___init__ = some ⟨oc_Round___init__, od_Round___init__, .func (PySem.W.fnOf "__init__" "Round.__init__" (defArgs s_Round___init__) (defBody s_Round___init__) (defScope s_Round___init__) .none kV_Round___init__ dc_Round___init__ pm_Round___init__ an_Round___init__ cd_Round___init__ ct_Round___init__), sl_Round___init__⟩)
    (c_Round___init__ : PySem.W.codeIn K cd_Round___init__ "Round.__init__" = true)
    (k_Round___init__ : PySem.W.keepIn K (.ref f_Round___init__) = true)
    (n_told : PySem.W.nsIn K mainGlobals "told" = some (some (.ref f_told)))
    (l_told : K.lookup f_told = some ⟨oc_told, od_told, .func (PySem.W.fnOf "told" "told" (defArgs s_told) (defBody s_told) (defScope s_told) .none kV_told dc_told pm_told an_told cd_told ct_told), sl_told⟩)
    (c_told : PySem.W.codeIn K cd_told "told" = true)
    (k_told : PySem.W.keepIn K (.ref f_told) = true)
    (n_tells_all : PySem.W.nsIn K mainGlobals "tells_all" = some (some (.ref f_tells_all)))
    (l_tells_all : K.lookup f_tells_all = some ⟨oc_tells_all, od_tells_all, .func (PySem.W.fnOf "tells_all" "tells_all" (defArgs s_tells_all) (defBody s_tells_all) (defScope s_tells_all) .none kV_tells_all dc_tells_all pm_tells_all an_tells_all cd_tells_all ct_tells_all), sl_tells_all⟩)
    (c_tells_all : PySem.W.codeIn K cd_tells_all "tells_all" = true)
    (k_tells_all : PySem.W.keepIn K (.ref f_tells_all) = true)
    (n_number_of : PySem.W.nsIn K mainGlobals "number_of" = some (some (.ref f_number_of)))
    (l_number_of : K.lookup f_number_of = some ⟨oc_number_of, od_number_of, .func (PySem.W.fnOf "number_of" "number_of" (defArgs s_number_of) (defBody s_number_of) (defScope s_number_of) .none kV_number_of dc_number_of pm_number_of an_number_of cd_number_of ct_number_of), sl_number_of⟩)
    (c_number_of : PySem.W.codeIn K cd_number_of "number_of" = true)
    (k_number_of : PySem.W.keepIn K (.ref f_number_of) = true)
    (n_all_told : PySem.W.nsIn K mainGlobals "all_told" = some (some (.ref f_all_told)))
    (l_all_told : K.lookup f_all_told = some ⟨oc_all_told, od_all_told, .func (PySem.W.fnOf "all_told" "all_told" (defArgs s_all_told) (defBody s_all_told) (defScope s_all_told) .none kV_all_told dc_all_told pm_all_told an_all_told cd_all_told ct_all_told), sl_all_told⟩)
    (c_all_told : PySem.W.codeIn K cd_all_told "all_told" = true)
    (k_all_told : PySem.W.keepIn K (.ref f_all_told) = true)
    (n__law_kinds : PySem.W.nsIn K mainGlobals "_law_kinds" = some (some (.ref f__law_kinds)))
    (l__law_kinds : K.lookup f__law_kinds = some ⟨oc__law_kinds, od__law_kinds, .func (PySem.W.fnOf "_law_kinds" "_law_kinds" (defArgs s__law_kinds) (defBody s__law_kinds) (defScope s__law_kinds) .none kV__law_kinds dc__law_kinds pm__law_kinds an__law_kinds cd__law_kinds ct__law_kinds), sl__law_kinds⟩)
    (c__law_kinds : PySem.W.codeIn K cd__law_kinds "_law_kinds" = true)
    (k__law_kinds : PySem.W.keepIn K (.ref f__law_kinds) = true)
    (n__law_with_base : PySem.W.nsIn K mainGlobals "_law_with_base" = some (some (.ref f__law_with_base)))
    (l__law_with_base : K.lookup f__law_with_base = some ⟨oc__law_with_base, od__law_with_base, .func (PySem.W.fnOf "_law_with_base" "_law_with_base" (defArgs s__law_with_base) (defBody s__law_with_base) (defScope s__law_with_base) .none kV__law_with_base dc__law_with_base pm__law_with_base an__law_with_base cd__law_with_base ct__law_with_base), sl__law_with_base⟩)
    (c__law_with_base : PySem.W.codeIn K cd__law_with_base "_law_with_base" = true)
    (k__law_with_base : PySem.W.keepIn K (.ref f__law_with_base) = true)
    (n__law_with_pair : PySem.W.nsIn K mainGlobals "_law_with_pair" = some (some (.ref f__law_with_pair)))
    (l__law_with_pair : K.lookup f__law_with_pair = some ⟨oc__law_with_pair, od__law_with_pair, .func (PySem.W.fnOf "_law_with_pair" "_law_with_pair" (defArgs s__law_with_pair) (defBody s__law_with_pair) (defScope s__law_with_pair) .none kV__law_with_pair dc__law_with_pair pm__law_with_pair an__law_with_pair cd__law_with_pair ct__law_with_pair), sl__law_with_pair⟩)
    (c__law_with_pair : PySem.W.codeIn K cd__law_with_pair "_law_with_pair" = true)
    (k__law_with_pair : PySem.W.keepIn K (.ref f__law_with_pair) = true)
    (n__law_with_row : PySem.W.nsIn K mainGlobals "_law_with_row" = some (some (.ref f__law_with_row)))
    (l__law_with_row : K.lookup f__law_with_row = some ⟨oc__law_with_row, od__law_with_row, .func (PySem.W.fnOf "_law_with_row" "_law_with_row" (defArgs s__law_with_row) (defBody s__law_with_row) (defScope s__law_with_row) .none kV__law_with_row dc__law_with_row pm__law_with_row an__law_with_row cd__law_with_row ct__law_with_row), sl__law_with_row⟩)
    (c__law_with_row : PySem.W.codeIn K cd__law_with_row "_law_with_row" = true)
    (k__law_with_row : PySem.W.keepIn K (.ref f__law_with_row) = true)
    (n__law_with_number : PySem.W.nsIn K mainGlobals "_law_with_number" = some (some (.ref f__law_with_number)))
    (l__law_with_number : K.lookup f__law_with_number = some ⟨oc__law_with_number, od__law_with_number, .func (PySem.W.fnOf "_law_with_number" "_law_with_number" (defArgs s__law_with_number) (defBody s__law_with_number) (defScope s__law_with_number) .none kV__law_with_number dc__law_with_number pm__law_with_number an__law_with_number cd__law_with_number ct__law_with_number), sl__law_with_number⟩)
    (c__law_with_number : PySem.W.codeIn K cd__law_with_number "_law_with_number" = true)
    (k__law_with_number : PySem.W.keepIn K (.ref f__law_with_number) = true)
    (n__law_told : PySem.W.nsIn K mainGlobals "_law_told" = some (some (.ref f__law_told)))
    (l__law_told : K.lookup f__law_told = some ⟨oc__law_told, od__law_told, .func (PySem.W.fnOf "_law_told" "_law_told" (defArgs s__law_told) (defBody s__law_told) (defScope s__law_told) .none kV__law_told dc__law_told pm__law_told an__law_told cd__law_told ct__law_told), sl__law_told⟩)
    (c__law_told : PySem.W.codeIn K cd__law_told "_law_told" = true)
    (k__law_told : PySem.W.keepIn K (.ref f__law_told) = true)
    (n_law : PySem.W.nsIn K mainGlobals "law" = some (some (.ref f_law)))
    (l_law : K.lookup f_law = some ⟨oc_law, od_law, .func (PySem.W.fnOf "law" "law" (defArgs s_law) (defBody s_law) (defScope s_law) .none kV_law dc_law pm_law an_law cd_law ct_law), sl_law⟩)
    (c_law : PySem.W.codeIn K cd_law "law" = true)
    (k_law : PySem.W.keepIn K (.ref f_law) = true)
    (z_int : PySem.W.nsIn K mainGlobals "int" = some none)
    (z_bool : PySem.W.nsIn K mainGlobals "bool" = some none)
    (z_tuple : PySem.W.nsIn K mainGlobals "tuple" = some none)
    (z_list : PySem.W.nsIn K mainGlobals "list" = some none)
    (z_set : PySem.W.nsIn K mainGlobals "set" = some none)
    (z_isinstance : PySem.W.nsIn K mainGlobals "isinstance" = some none)
    (z_len : PySem.W.nsIn K mainGlobals "len" = some none)
    (z_abs : PySem.W.nsIn K mainGlobals "abs" = some none)
    (z_all : PySem.W.nsIn K mainGlobals "all" = some none)
    (z_any : PySem.W.nsIn K mainGlobals "any" = some none)
    (z_reversed : PySem.W.nsIn K mainGlobals "reversed" = some none)
    (z_range : PySem.W.nsIn K mainGlobals "range" = some none)
    (z_enumerate : PySem.W.nsIn K mainGlobals "enumerate" = some none)
    (z_gcd : PySem.W.nsIn K mainGlobals "gcd" = some (some (.builtin "math.gcd")))
    (gLIMIT : PySem.W.nsIn K mainGlobals "LIMIT" = some (some (.int 30 tL)))
    (gLEAST : PySem.W.nsIn K mainGlobals "LEAST_SIZE" = some (some (.int 2 tS)))
    (gORIGIN : PySem.W.nsIn K mainGlobals "ORIGIN" = some (some (.ref oa)))
    (lORIGIN : K.lookup oa = some ⟨.type "tuple", odO, .seq #[.int 0 tO, .int 0 tP] nO, slO⟩) :
    ∃ fd : FuncData, (∀ (s : Shared) (v : Value), BindsTo s fd ⟨[v], []⟩ [("_law_script", v)]) ∧ ∀ base : Heap, K.In base → base.Ns mainGlobals mg → FnOk l.prog w K mg base CX0 12 fa fd ["_law_script"] (sp_law K) := by
  have e := hfa.symm.trans (PySem.W.mg_of X G n_law)
  cases e
  have T : Txt K mg := ⟨PySem.W.mg_none_of X G z_int, PySem.W.mg_none_of X G z_bool, PySem.W.mg_none_of X G z_tuple, PySem.W.mg_none_of X G z_list, PySem.W.mg_none_of X G z_set, PySem.W.mg_none_of X G z_isinstance, PySem.W.mg_none_of X G z_len, PySem.W.mg_none_of X G z_abs, PySem.W.mg_none_of X G z_all, PySem.W.mg_none_of X G z_any, PySem.W.mg_none_of X G z_reversed, PySem.W.mg_none_of X G z_range, PySem.W.mg_none_of X G z_enumerate, PySem.W.mg_of X G z_gcd, ⟨_, PySem.W.mg_of X G gLIMIT⟩, ⟨_, PySem.W.mg_of X G gLEAST⟩, ⟨oa, PySem.W.mg_of X G gORIGIN, fun _ => .inr ⟨_, _, _, lORIGIN, rfl, rfl, small_size (by show (2 : Nat) ≤ 16000000; decide), .cons ⟨_, rfl⟩ (.cons ⟨_, rfl⟩ .nil)⟩⟩⟩
  have cfCT : CF K mg "Told" CT := ⟨⟨pgCT, hdCT, poCT, saCT⟩, PySem.W.mg_of X G gCCT, haCT, hn, tk, hmCT, isCT, tyCT⟩
  have cfCR : CF K mg "Round" CR := ⟨⟨pgCR, hdCR, poCR, saCR⟩, PySem.W.mg_of X G gCCR, haCR, hn, tk, hmCR, isCR, tyCR⟩
  have F__law_draw := fun_mk (st := s__law_draw) l__law_draw c__law_draw k__law_draw
  have b__law_draw := F__law_draw.binds (ps := ["_law_cell", "_law_k", "_law_many"]) fun _ _ _ _ _ _ us hl => match us, hl with | [_, _, _], _ => rfl
  have F__law_value := fun_mk (st := s__law_value) l__law_value c__law_value k__law_value
  have b__law_value := F__law_value.binds (ps := ["_law_cell", "_law_k", "_law_limit"]) fun _ _ _ _ _ _ us hl => match us, hl with | [_, _, _], _ => rfl
  have F__law_cell_at := fun_mk (st := s__law_cell_at) l__law_cell_at c__law_cell_at k__law_cell_at
  have b__law_cell_at := F__law_cell_at.binds (ps := ["_law_script", "_law_k"]) fun _ _ _ _ _ _ us hl => match us, hl with | [_, _], _ => rfl
  have F__law_common := fun_mk (st := s__law_common) l__law_common c__law_common k__law_common
  have b__law_common := F__law_common.binds (ps := ["_law_one", "_law_other"]) fun _ _ _ _ _ _ us hl => match us, hl with | [_, _], _ => rfl
  have F__law_base := fun_mk (st := s__law_base) l__law_base c__law_base k__law_base
  have b__law_base := F__law_base.binds (ps := ["_law_script", "_law_k"]) fun _ _ _ _ _ _ us hl => match us, hl with | [_, _], _ => rfl
  have F__law_size := fun_mk (st := s__law_size) l__law_size c__law_size k__law_size
  have b__law_size := F__law_size.binds (ps := ["_law_base_here"]) fun _ _ _ _ _ _ us hl => match us, hl with | [_], _ => rfl
  have F_is_number := fun_mk (st := s_is_number) l_is_number c_is_number k_is_number
  have b_is_number := F_is_number.binds (ps := ["thing"]) fun _ _ _ _ _ _ us hl => match us, hl with | [_], _ => rfl
  have F_is_pair := fun_mk (st := s_is_pair) l_is_pair c_is_pair k_is_pair
  have b_is_pair := F_is_pair.binds (ps := ["thing"]) fun _ _ _ _ _ _ us hl => match us, hl with | [_], _ => rfl
  have F_squares := fun_mk (st := s_squares) l_squares c_squares k_squares
  have b_squares := F_squares.binds (ps := ["pair"]) fun _ _ _ _ _ _ us hl => match us, hl with | [_], _ => rfl
  have F_is_base := fun_mk (st := s_is_base) l_is_base c_is_base k_is_base
  have b_is_base := F_is_base.binds (ps := ["thing"]) fun _ _ _ _ _ _ us hl => match us, hl with | [_], _ => rfl
  have F_need_base := fun_mk (st := s_need_base) l_need_base c_need_base k_need_base
  have b_need_base := F_need_base.binds (ps := ["thing"]) fun _ _ _ _ _ _ us hl => match us, hl with | [_], _ => rfl
  have F_size := fun_mk (st := s_size) l_size c_size k_size
  have b_size := F_size.binds (ps := ["base"]) fun _ _ _ _ _ _ us hl => match us, hl with | [_], _ => rfl
  have F_is_row := fun_mk (st := s_is_row) l_is_row c_is_row k_is_row
  have b_is_row := F_is_row.binds (ps := ["base", "thing"]) fun _ _ _ _ _ _ us hl => match us, hl with | [_, _], _ => rfl
  have F_need_pair := fun_mk (st := s_need_pair) l_need_pair c_need_pair k_need_pair
  have b_need_pair := F_need_pair.binds (ps := ["thing"]) fun _ _ _ _ _ _ us hl => match us, hl with | [_], _ => rfl
  have F_times := fun_mk (st := s_times) l_times c_times k_times
  have b_times := F_times.binds (ps := ["one", "other"]) fun _ _ _ _ _ _ us hl => match us, hl with | [_, _], _ => rfl
  have F_pair_of := fun_mk (st := s_pair_of) l_pair_of c_pair_of k_pair_of
  have b_pair_of := F_pair_of.binds (ps := ["base", "row"]) fun _ _ _ _ _ _ us hl => match us, hl with | [_, _], _ => rfl
  have F_read := fun_mk (st := s_read) l_read c_read k_read
  have b_read := F_read.binds (ps := ["base", "row"]) fun _ _ _ _ _ _ us hl => match us, hl with | [_, _], _ => rfl
  have F_pair_by := fun_mk (st := s_pair_by) l_pair_by c_pair_by k_pair_by
  have b_pair_by := F_pair_by.binds (ps := ["base", "number"]) fun _ _ _ _ _ _ us hl => match us, hl with | [_, _], _ => rfl
  have F_inverse := fun_mk (st := s_inverse) l_inverse c_inverse k_inverse
  have b_inverse := F_inverse.binds (ps := ["number", "many"]) fun _ _ _ _ _ _ us hl => match us, hl with | [_, _], _ => rfl
  have F_like_second_unit := fun_mk (st := s_like_second_unit) l_like_second_unit c_like_second_unit k_like_second_unit
  have b_like_second_unit := F_like_second_unit.binds (ps := ["base"]) fun _ _ _ _ _ _ us hl => match us, hl with | [_], _ => rfl
  have F_step := fun_mk (st := s_step) l_step c_step k_step
  have b_step := F_step.binds (ps := ["base", "pair"]) fun _ _ _ _ _ _ us hl => match us, hl with | [_, _], _ => rfl
  have F_round_from := fun_mk (st := s_round_from) l_round_from c_round_from k_round_from
  have b_round_from := F_round_from.binds (ps := ["base", "start"]) fun _ _ _ _ _ _ us hl => match us, hl with | [_, _], _ => rfl
  have F_round_of := fun_mk (st := s_round_of) l_round_of c_round_of k_round_of
  have b_round_of := F_round_of.binds (ps := ["base", "pair"]) fun _ _ _ _ _ _ us hl => match us, hl with | [_, _], _ => rfl
  have F_row_of := fun_mk (st := s_row_of) l_row_of c_row_of k_row_of
  have b_row_of := F_row_of.binds (ps := ["base", "pair"]) fun _ _ _ _ _ _ us hl => match us, hl with | [_, _], _ => rfl
  have F_Told___init__ := fun_mk (st := s_Told___init__) l_Told___init__ c_Told___init__ k_Told___init__
  have b_Told___init__ := F_Told___init__.binds (ps := ["self", "row"]) fun _ _ _ _ _ _ us hl => match us, hl with | [_, _], _ => rfl
  have F_Round___init__ := fun_mk (st := s_Round___init__) l_Round___init__ c_Round___init__ k_Round___init__
  have b_Round___init__ := F_Round___init__.binds (ps := ["self", "pairs"]) fun _ _ _ _ _ _ us hl => match us, hl with | [_, _], _ => rfl
  have F_told := fun_mk (st := s_told) l_told c_told k_told
  have b_told := F_told.binds (ps := ["base", "pair"]) fun _ _ _ _ _ _ us hl => match us, hl with | [_, _], _ => rfl
  have F_tells_all := fun_mk (st := s_tells_all) l_tells_all c_tells_all k_tells_all
  have b_tells_all := F_tells_all.binds (ps := ["base"]) fun _ _ _ _ _ _ us hl => match us, hl with | [_], _ => rfl
  have F_number_of := fun_mk (st := s_number_of) l_number_of c_number_of k_number_of
  have b_number_of := F_number_of.binds (ps := ["base", "pair"]) fun _ _ _ _ _ _ us hl => match us, hl with | [_, _], _ => rfl
  have F_all_told := fun_mk (st := s_all_told) l_all_told c_all_told k_all_told
  have b_all_told := F_all_told.binds (ps := ["base"]) fun _ _ _ _ _ _ us hl => match us, hl with | [_], _ => rfl
  have F__law_kinds := fun_mk (st := s__law_kinds) l__law_kinds c__law_kinds k__law_kinds
  have b__law_kinds := F__law_kinds.binds (ps := ["_law_error"]) fun _ _ _ _ _ _ us hl => match us, hl with | [_], _ => rfl
  have F__law_with_base := fun_mk (st := s__law_with_base) l__law_with_base c__law_with_base k__law_with_base
  have b__law_with_base := F__law_with_base.binds (ps := ["_law_door", "_law_base_here"]) fun _ _ _ _ _ _ us hl => match us, hl with | [_, _], _ => rfl
  have F__law_with_pair := fun_mk (st := s__law_with_pair) l__law_with_pair c__law_with_pair k__law_with_pair
  have b__law_with_pair := F__law_with_pair.binds (ps := ["_law_where", "_law_pair"]) fun _ _ _ _ _ _ us hl => match us, hl with | [_, _], _ => rfl
  have F__law_with_row := fun_mk (st := s__law_with_row) l__law_with_row c__law_with_row k__law_with_row
  have b__law_with_row := F__law_with_row.binds (ps := ["_law_base_here", "_law_row"]) fun _ _ _ _ _ _ us hl => match us, hl with | [_, _], _ => rfl
  have F__law_with_number := fun_mk (st := s__law_with_number) l__law_with_number c__law_with_number k__law_with_number
  have b__law_with_number := F__law_with_number.binds (ps := ["_law_base_here", "_law_number"]) fun _ _ _ _ _ _ us hl => match us, hl with | [_, _], _ => rfl
  have F__law_told := fun_mk (st := s__law_told) l__law_told c__law_told k__law_told
  have b__law_told := F__law_told.binds (ps := ["_law_ask", "_law_one", "_law_other"]) fun _ _ _ _ _ _ us hl => match us, hl with | [_, _, _], _ => rfl
  have F_law := fun_mk (st := s_law) l_law c_law k_law
  have b_law := F_law.binds (ps := ["_law_script"]) fun _ _ _ _ _ _ us hl => match us, hl with | [_], _ => rfl
  refine ⟨PySem.W.fnOf "law" "law" (defArgs s_law) (defBody s_law) (defScope s_law) .none kV_law dc_law pm_law an_law cd_law ct_law, fun s v => .of_eq rfl, fun base _ _ => ?_⟩
  have O__law_draw := ok__law_draw (P := l.prog) (w := w) (base := base) F__law_draw T  
  have H__law_draw := has_of F__law_draw (PySem.W.mg_of X G n__law_draw) O__law_draw b__law_draw
  have O__law_value := ok__law_value (P := l.prog) (w := w) (base := base) F__law_value T H__law_draw 
  have H__law_value := has_of F__law_value (PySem.W.mg_of X G n__law_value) O__law_value b__law_value
  have O__law_cell_at := ok__law_cell_at (P := l.prog) (w := w) (base := base) F__law_cell_at T  
  have H__law_cell_at := has_of F__law_cell_at (PySem.W.mg_of X G n__law_cell_at) O__law_cell_at b__law_cell_at
  have O__law_common := ok__law_common (P := l.prog) (w := w) (base := base) F__law_common T  
  have H__law_common := has_of F__law_common (PySem.W.mg_of X G n__law_common) O__law_common b__law_common
  have O__law_base := ok__law_base (P := l.prog) (w := w) (base := base) F__law_base T H__law_cell_at H__law_draw H__law_common 
  have H__law_base := has_of F__law_base (PySem.W.mg_of X G n__law_base) O__law_base b__law_base
  have O__law_size := ok__law_size (P := l.prog) (w := w) (base := base) F__law_size T  
  have H__law_size := has_of F__law_size (PySem.W.mg_of X G n__law_size) O__law_size b__law_size
  have O_is_number := ok_is_number (P := l.prog) (w := w) (base := base) F_is_number T  
  have H_is_number := has_of F_is_number (PySem.W.mg_of X G n_is_number) O_is_number b_is_number
  have O_is_pair := ok_is_pair (P := l.prog) (w := w) (base := base) F_is_pair T H_is_number 
  have H_is_pair := has_of F_is_pair (PySem.W.mg_of X G n_is_pair) O_is_pair b_is_pair
  have O_squares := ok_squares (P := l.prog) (w := w) (base := base) F_squares T  
  have H_squares := has_of F_squares (PySem.W.mg_of X G n_squares) O_squares b_squares
  have O_is_base := ok_is_base (P := l.prog) (w := w) (base := base) F_is_base T H_is_pair H_squares 
  have H_is_base := has_of F_is_base (PySem.W.mg_of X G n_is_base) O_is_base b_is_base
  have O_need_base := ok_need_base (P := l.prog) (w := w) (base := base) F_need_base T H_is_base 
  have H_need_base := has_of F_need_base (PySem.W.mg_of X G n_need_base) O_need_base b_need_base
  have O_size := ok_size (P := l.prog) (w := w) (base := base) F_size T H_need_base H_squares 
  have H_size := has_of F_size (PySem.W.mg_of X G n_size) O_size b_size
  have O_is_row := ok_is_row (P := l.prog) (w := w) (base := base) F_is_row T H_size H_is_number 
  have H_is_row := has_of F_is_row (PySem.W.mg_of X G n_is_row) O_is_row b_is_row
  have O_need_pair := ok_need_pair (P := l.prog) (w := w) (base := base) F_need_pair T H_is_pair 
  have H_need_pair := has_of F_need_pair (PySem.W.mg_of X G n_need_pair) O_need_pair b_need_pair
  have O_times := ok_times (P := l.prog) (w := w) (base := base) F_times T H_need_pair 
  have H_times := has_of F_times (PySem.W.mg_of X G n_times) O_times b_times
  have O_pair_of := ok_pair_of (P := l.prog) (w := w) (base := base) F_pair_of T H_times 
  have H_pair_of := has_of F_pair_of (PySem.W.mg_of X G n_pair_of) O_pair_of b_pair_of
  have O_read := ok_read (P := l.prog) (w := w) (base := base) F_read T H_need_base H_is_row H_pair_of 
  have H_read := has_of F_read (PySem.W.mg_of X G n_read) O_read b_read
  have O_pair_by := ok_pair_by (P := l.prog) (w := w) (base := base) F_pair_by T H_size H_is_number H_read 
  have H_pair_by := has_of F_pair_by (PySem.W.mg_of X G n_pair_by) O_pair_by b_pair_by
  have O_inverse := ok_inverse (P := l.prog) (w := w) (base := base) F_inverse T  
  have H_inverse := has_of F_inverse (PySem.W.mg_of X G n_inverse) O_inverse b_inverse
  have O_like_second_unit := ok_like_second_unit (P := l.prog) (w := w) (base := base) F_like_second_unit T H_inverse H_squares 
  have H_like_second_unit := has_of F_like_second_unit (PySem.W.mg_of X G n_like_second_unit) O_like_second_unit b_like_second_unit
  have O_step := ok_step (P := l.prog) (w := w) (base := base) F_step T H_need_base H_need_pair H_squares H_like_second_unit H_times 
  have H_step := has_of F_step (PySem.W.mg_of X G n_step) O_step b_step
  have O_round_from := ok_round_from (P := l.prog) (w := w) (base := base) F_round_from T H_step 
  have H_round_from := has_of F_round_from (PySem.W.mg_of X G n_round_from) O_round_from b_round_from
  have O_round_of := ok_round_of (P := l.prog) (w := w) (base := base) F_round_of T H_step H_round_from 
  have H_round_of := has_of F_round_of (PySem.W.mg_of X G n_round_of) O_round_of b_round_of
  have O_row_of := ok_row_of (P := l.prog) (w := w) (base := base) F_row_of T H_step 
  have H_row_of := has_of F_row_of (PySem.W.mg_of X G n_row_of) O_row_of b_row_of
  have O_Told___init__ := ok_Told___init__ (P := l.prog) (w := w) (base := base) F_Told___init__ T  cfCT naCT
  have H_Told___init__ : HasI l.prog w K mg base "Told" CT 1 ["self", "row"] (sp_mkl K CT "row") := ⟨_, _, O_Told___init__, ⟨mkCT, a_Told___init__, i_Told___init__, kcCT⟩, b_Told___init__, PySem.W.mg_of X G gCCT⟩
  have O_Round___init__ := ok_Round___init__ (P := l.prog) (w := w) (base := base) F_Round___init__ T  cfCR naCR
  have H_Round___init__ : HasI l.prog w K mg base "Round" CR 1 ["self", "pairs"] (sp_mkl K CR "pairs") := ⟨_, _, O_Round___init__, ⟨mkCR, a_Round___init__, i_Round___init__, kcCR⟩, b_Round___init__, PySem.W.mg_of X G gCCR⟩
  have O_told := ok_told (P := l.prog) (w := w) (base := base) F_told T H_need_base H_need_pair H_round_of H_row_of H_Told___init__ H_Round___init__
  have H_told := has_of F_told (PySem.W.mg_of X G n_told) O_told b_told
  have O_tells_all := ok_tells_all (P := l.prog) (w := w) (base := base) F_tells_all T H_need_base 
  have H_tells_all := has_of F_tells_all (PySem.W.mg_of X G n_tells_all) O_tells_all b_tells_all
  have N : Cs mg C1 C2 C3 C4 CV := ⟨PySem.W.mg_of X G gnC1, PySem.W.mg_of X G gnC2, PySem.W.mg_of X G gnC3, PySem.W.mg_of X G gnC4, PySem.W.mg_of X G gnCV, PySem.W.mg_none_of X G z_ValueError⟩
  have hB := PySem.W.mg_of X G gnCB
  have X1 : ExK K C1 := ⟨xC1, kC1, bC1, tC1⟩
  have X2 : ExK K C2 := ⟨xC2, kC2, bC2, tC2⟩
  have X3 : ExK K C3 := ⟨xC3, kC3, bC3, tC3⟩
  have X4 : ExK K C4 := ⟨xC4, kC4, bC4, tC4⟩
  have XV : ExK K CV := ⟨xCV, kCV, bCV, tCV⟩
  have Z : Due K C1 C2 C3 C4 CV CB := ⟨⟨⟨hgC1, hkC1, bC1, hdC1, haC1, hn, tk, hmC1⟩, kit_cl_self, (kit_cl isC2 tC2 sbC1C2 neC1C2), (kit_cl isC3 tC3 sbC1C3 neC1C3), (kit_cl isC4 tC4 sbC1C4 neC1C4), (kit_cl isCV tCV sbC1CV neC1CV), kit_bt (by decide +kernel) svC1⟩, ⟨⟨hgC2, hkC2, bC2, hdC2, haC2, hn, tk, hmC2⟩, (kit_cl isC1 tC1 sbC2C1 neC2C1), kit_cl_self, (kit_cl isC3 tC3 sbC2C3 neC2C3), (kit_cl isC4 tC4 sbC2C4 neC2C4), (kit_cl isCV tCV sbC2CV neC2CV), kit_bt (by decide +kernel) svC2⟩, ⟨⟨hgC3, hkC3, bC3, hdC3, haC3, hn, tk, hmC3⟩, (kit_cl isC1 tC1 sbC3C1 neC3C1), (kit_cl isC2 tC2 sbC3C2 neC3C2), kit_cl_self, (kit_cl isC4 tC4 sbC3C4 neC3C4), (kit_cl isCV tCV sbC3CV neC3CV), kit_bt (by decide +kernel) svC3⟩, ⟨⟨hgC4, hkC4, bC4, hdC4, haC4, hn, tk, hmC4⟩, (kit_cl isC1 tC1 sbC4C1 neC4C1), (kit_cl isC2 tC2 sbC4C2 neC4C2), (kit_cl isC3 tC3 sbC4C3 neC4C3), kit_cl_self, (kit_cl isCV tCV sbC4CV neC4CV), kit_bt (by decide +kernel) svC4⟩, ⟨⟨hgCV, hkCV, bCV, hdCV, haCV, hn, tk, hmCV⟩, (kit_cl isC1 tC1 sbCVC1 neCVC1), (kit_cl isC2 tC2 sbCVC2 neCVC2), (kit_cl isC3 tC3 sbCVC3 neCVC3), (kit_cl isC4 tC4 sbCVC4 neCVC4), kit_cl_self, kit_bt (by decide +kernel) svCV⟩, PySem.W.exm_ref bCB hdCB tCB sbC1CB, PySem.W.exm_ref bCB hdCB tCB sbC2CB, PySem.W.exm_ref bCB hdCB tCB sbC3CB, PySem.W.exm_ref bCB hdCB tCB sbC4CB, PySem.W.exm_ref bCB hdCB tCB sbCVCB⟩
  have hX_need_base : HasX l.prog w K mg base "need_base" 4 ["thing"] (sp_need_baseX K C1) := ⟨_, _, okX_need_base (P := l.prog) (w := w) (base := base) F_need_base T N X1 H_is_base, PySem.W.mg_of X G n_need_base, k_need_base, b_need_base⟩
  have hX_need_pair : HasX l.prog w K mg base "need_pair" 3 ["thing"] (sp_need_pairX K C2) := ⟨_, _, okX_need_pair (P := l.prog) (w := w) (base := base) F_need_pair T N X2 H_is_pair, PySem.W.mg_of X G n_need_pair, k_need_pair, b_need_pair⟩
  have hX_size : HasX l.prog w K mg base "size" 5 ["base"] (sp_sizeX K C1) := ⟨_, _, fnOk_or (okX_size (P := l.prog) (w := w) (base := base) (C1 := C1) (C2 := C2) (C3 := C3) (C4 := C4) (CV := CV) F_size T hX_need_base) (fnOk_up O_size), PySem.W.mg_of X G n_size, k_size, b_size⟩
  have hX_tells_all : HasX l.prog w K mg base "tells_all" 5 ["base"] (sp_refB K C1) := ⟨_, _, okX_tells_all (P := l.prog) (w := w) (base := base) (C1 := C1) (C2 := C2) (C3 := C3) (C4 := C4) (CV := CV) F_tells_all T hX_need_base, PySem.W.mg_of X G n_tells_all, k_tells_all, b_tells_all⟩
  have hX_times : HasX l.prog w K mg base "times" 4 ["one", "other"] (sp_timesX K C2) := ⟨_, _, okX_times (P := l.prog) (w := w) (base := base) (C1 := C1) (C2 := C2) (C3 := C3) (C4 := C4) (CV := CV) F_times T hX_need_pair, PySem.W.mg_of X G n_times, k_times, b_times⟩
  have hX_step : HasX l.prog w K mg base "step" 5 ["base", "pair"] (sp_twoX K C1 C2) := ⟨_, _, okX_step (P := l.prog) (w := w) (base := base) (C1 := C1) (C2 := C2) (C3 := C3) (C4 := C4) (CV := CV) F_step T hX_need_base hX_need_pair, PySem.W.mg_of X G n_step, k_step, b_step⟩
  have hX_told : HasX l.prog w K mg base "told" 8 ["base", "pair"] (sp_twoX K C1 C2) := ⟨_, _, okX_told (P := l.prog) (w := w) (base := base) (C1 := C1) (C2 := C2) (C3 := C3) (C4 := C4) (CV := CV) F_told T hX_need_base hX_need_pair, PySem.W.mg_of X G n_told, k_told, b_told⟩
  have hX_read : HasX l.prog w K mg base "read" 7 ["base", "row"] (sp_readX K C1 C3) := ⟨_, _, okX_read (P := l.prog) (w := w) (base := base) (C1 := C1) (C2 := C2) (C3 := C3) (C4 := C4) (CV := CV) F_read T hX_need_base H_is_row N X3, PySem.W.mg_of X G n_read, k_read, b_read⟩
  have hX_all_told : HasX l.prog w K mg base "all_told" 6 ["base"] (sp_refB K C1) := ⟨_, _, okX_all_told (P := l.prog) (w := w) (base := base) (C1 := C1) (C2 := C2) (C3 := C3) (C4 := C4) (CV := CV) F_all_told T hX_tells_all, PySem.W.mg_of X G n_all_told, k_all_told, b_all_told⟩
  have hX_pair_by : HasX l.prog w K mg base "pair_by" 8 ["base", "number"] (sp_pair_byX K C1 C4) := ⟨_, _, okX_pair_by (P := l.prog) (w := w) (base := base) (C1 := C1) (C2 := C2) (C3 := C3) (C4 := C4) (CV := CV) F_pair_by T hX_size H_is_number N X4, PySem.W.mg_of X G n_pair_by, k_pair_by, b_pair_by⟩
  have hX_number_of : HasX l.prog w K mg base "number_of" 9 ["base", "pair"] (fun vs H Q E => sp_twoX K C1 C2 vs H Q E ∨ sp_number_ofX K CV vs H Q E) := ⟨_, _, fnOk_or (okX_number_of (P := l.prog) (w := w) (base := base) (C1 := C1) (C2 := C2) (C3 := C3) (C4 := C4) (CV := CV) F_number_of T hX_told) (okX_number_ofV (P := l.prog) (w := w) (base := base) (C1 := C1) (C2 := C2) (C3 := C3) (C4 := C4) (CV := CV) F_number_of T H_told cfCR XV N), PySem.W.mg_of X G n_number_of, k_number_of, b_number_of⟩
  have hX__law_with_base : HasX l.prog w K mg base "_law_with_base" 10 ["_law_door", "_law_base_here"] (sp_wbase K C1) := ⟨_, _, okX__law_with_base (P := l.prog) (w := w) (base := base) (C1 := C1) (C2 := C2) (C3 := C3) (C4 := C4) (CV := CV) F__law_with_base T hX_size hX_step hX_read hX_told hX_all_told hX_pair_by hX_number_of, PySem.W.mg_of X G n__law_with_base, k__law_with_base, b__law_with_base⟩
  have hX__law_with_pair : HasX l.prog w K mg base "_law_with_pair" 10 ["_law_where", "_law_pair"] (sp_wpair K C2 CV) := ⟨_, _, okX__law_with_pair (P := l.prog) (w := w) (base := base) (C1 := C1) (C2 := C2) (C3 := C3) (C4 := C4) (CV := CV) F__law_with_pair T hX_times hX_step hX_told hX_number_of, PySem.W.mg_of X G n__law_with_pair, k__law_with_pair, b__law_with_pair⟩
  have hX__law_with_row : HasX l.prog w K mg base "_law_with_row" 10 ["_law_base_here", "_law_row"] (sp_wrow K C3) := ⟨_, _, okX__law_with_row (P := l.prog) (w := w) (base := base) (C1 := C1) (C2 := C2) (C3 := C3) (C4 := C4) (CV := CV) F__law_with_row T hX_read, PySem.W.mg_of X G n__law_with_row, k__law_with_row, b__law_with_row⟩
  have hX__law_with_number : HasX l.prog w K mg base "_law_with_number" 10 ["_law_base_here", "_law_number"] (sp_wnum K C4) := ⟨_, _, okX__law_with_number (P := l.prog) (w := w) (base := base) (C1 := C1) (C2 := C2) (C3 := C3) (C4 := C4) (CV := CV) F__law_with_number T hX_pair_by, PySem.W.mg_of X G n__law_with_number, k__law_with_number, b__law_with_number⟩
  have O__law_told := ok__law_told (P := l.prog) (w := w) (base := base) (k := 10) (S := HeldX l.prog w K mg base 10) F__law_told T N hB ⟨_, _, F__law_kinds, PySem.W.mg_of X G n__law_kinds, k__law_kinds, b__law_kinds⟩ (by decide) (fun _ _ h => h)
  have H__law_told := has_of F__law_told (PySem.W.mg_of X G n__law_told) O__law_told b__law_told
  exact ok_law (P := l.prog) (w := w) (base := base) F_law T H__law_value H__law_cell_at H__law_base H__law_size H_size H_read H_pair_by Z H__law_told (PySem.W.mg_of X G n__law_with_base) (hX__law_with_base.held (PySem.W.mg_of X G n__law_with_base)) (PySem.W.mg_of X G n__law_with_pair) (hX__law_with_pair.held (PySem.W.mg_of X G n__law_with_pair)) (PySem.W.mg_of X G n__law_with_row) (hX__law_with_row.held (PySem.W.mg_of X G n__law_with_row)) (PySem.W.mg_of X G n__law_with_number) (hX__law_with_number.held (PySem.W.mg_of X G n__law_with_number))
theorem walk {l : PySem.W.OpenLaw} {q : Program} {loose : List Str} {XP : (Str → Option Value) → Heap → Prop} {YP : World → Heap → Prop} {d : DefRec} {K : Params → PySem.W.Frag} (hn : l.most = some 63) (hdf : d.params.defaults = [])
    (hY : ∀ (w : World) (h : Heap), YP w h → (K w.params).In h)
    (F : ∀ (w : World) (mg : Str → Option Value) (fa : Addr) (h : Heap), (K w.params).In h → h.Ns mainGlobals mg → mg d.name = some (.ref fa) →
      ∃ fd : FuncData, (∀ (s : Shared) (u : Value), BindsTo s fd ⟨[u], []⟩ [("_law_script", u)]) ∧ ∀ base : Heap, (K w.params).In base → base.Ns mainGlobals mg → FnOk l.prog w (K w.params) mg base CX0 12 fa fd ["_law_script"] (sp_law (K w.params))) :
    PySem.W.WalkO q loose XP YP l.row.toRowW d [] (fun f vs => PySem.call f vs) :=
  L2.walk_ofB (n := 63) (k := 12) (x := "_law_script") (CX := fun _ => CX0) (sp := fun w => sp_law (K w.params)) hn (by decide) hdf ⟨rfl, by decide, by decide⟩ hY F (fun _ _ a ns hl hb _ hS => ⟨_, rfl, a, ns, rfl, hS, hl, hb, fun _ _ => rfl⟩) fun _ _ _ _ _ z => z
end Pb
set_option Elab.async false
open PySem PySem.W PyProof.Rows
set_option maxRecDepth 100000 in
set_option maxHeartbeats 0 in
theorem PySem.Challenge.cw_pairbase_k05_refused_holds : PySem.Challenge.rw_pairbase_k05_refused.Holds := by
  w_on; o_law; k_head; (case hw => w_witness2)
  k_fill
  refine Pb.walk (l := PySem.Challenge.rw_pairbase_k05_refused) rfl rfl (fun w h Y => PySem.W.kIn_of Y) ?F
  case F =>
    intro w mg fa h KX G hmg
    refine' Pb.all_mk KX G hmg ?gCCT ?pgCT ?hdCT ?poCT ?saCT ?kcCT ?haCT ?hmCT ?isCT ?tyCT ?naCT ?mkCT ?gCCR ?pgCR ?hdCR ?poCR ?saCR ?kcCR ?haCR ?hmCR ?isCR ?tyCR ?naCR ?mkCR ?gnC1 ?gnC2 ?gnC3 ?gnC4 ?gnCV ?gnCB ?z_ValueError ?bCB ?hdCB ?tCB ?xC1 ?kC1 ?bC1 ?tC1 ?sbC1CB ?svC1 ?hgC1 ?hkC1 ?hdC1 ?haC1 ?hmC1 ?isC1 ?sbC1C2 ?neC1C2 ?sbC1C3 ?neC1C3 ?sbC1C4 ?neC1C4 ?sbC1CV ?neC1CV ?xC2 ?kC2 ?bC2 ?tC2 ?sbC2CB ?svC2 ?hgC2 ?hkC2 ?hdC2 ?haC2 ?hmC2 ?isC2 ?sbC2C1 ?neC2C1 ?sbC2C3 ?neC2C3 ?sbC2C4 ?neC2C4 ?sbC2CV ?neC2CV ?xC3 ?kC3 ?bC3 ?tC3 ?sbC3CB ?svC3 ?hgC3 ?hkC3 ?hdC3 ?haC3 ?hmC3 ?isC3 ?sbC3C1 ?neC3C1 ?sbC3C2 ?neC3C2 ?sbC3C4 ?neC3C4 ?sbC3CV ?neC3CV ?xC4 ?kC4 ?bC4 ?tC4 ?sbC4CB ?svC4 ?hgC4 ?hkC4 ?hdC4 ?haC4 ?hmC4 ?isC4 ?sbC4C1 ?neC4C1 ?sbC4C2 ?neC4C2 ?sbC4C3 ?neC4C3 ?sbC4CV ?neC4CV ?xCV ?kCV ?bCV ?tCV ?sbCVCB ?svCV ?hgCV ?hkCV ?hdCV ?haCV ?hmCV ?isCV ?sbCVC1 ?neCVC1 ?sbCVC2 ?neCVC2 ?sbCVC3 ?neCVC3 ?sbCVC4 ?neCVC4 ?hn ?tk ?n__law_draw ?l__law_draw ?c__law_draw ?k__law_draw ?n__law_value ?l__law_value ?c__law_value ?k__law_value ?n__law_cell_at ?l__law_cell_at ?c__law_cell_at ?k__law_cell_at ?n__law_common ?l__law_common ?c__law_common ?k__law_common ?n__law_base ?l__law_base ?c__law_base ?k__law_base ?n__law_size ?l__law_size ?c__law_size ?k__law_size ?n_is_number ?l_is_number ?c_is_number ?k_is_number ?n_is_pair ?l_is_pair ?c_is_pair ?k_is_pair ?n_squares ?l_squares ?c_squares ?k_squares ?n_is_base ?l_is_base ?c_is_base ?k_is_base ?n_need_base ?l_need_base ?c_need_base ?k_need_base ?n_size ?l_size ?c_size ?k_size ?n_is_row ?l_is_row ?c_is_row ?k_is_row ?n_need_pair ?l_need_pair ?c_need_pair ?k_need_pair ?n_times ?l_times ?c_times ?k_times ?n_pair_of ?l_pair_of ?c_pair_of ?k_pair_of ?n_read ?l_read ?c_read ?k_read ?n_pair_by ?l_pair_by ?c_pair_by ?k_pair_by ?n_inverse ?l_inverse ?c_inverse ?k_inverse ?n_like_second_unit ?l_like_second_unit ?c_like_second_unit ?k_like_second_unit ?n_step ?l_step ?c_step ?k_step ?n_round_from ?l_round_from ?c_round_from ?k_round_from ?n_round_of ?l_round_of ?c_round_of ?k_round_of ?n_row_of ?l_row_of ?c_row_of ?k_row_of ?a_Told___init__ ?i_Told___init__ ?l_Told___init__ ?c_Told___init__ ?k_Told___init__ ?a_Round___init__ ?i_Round___init__ ?l_Round___init__ ?c_Round___init__ ?k_Round___init__ ?n_told ?l_told ?c_told ?k_told ?n_tells_all ?l_tells_all ?c_tells_all ?k_tells_all ?n_number_of ?l_number_of ?c_number_of ?k_number_of ?n_all_told ?l_all_told ?c_all_told ?k_all_told ?n__law_kinds ?l__law_kinds ?c__law_kinds ?k__law_kinds ?n__law_with_base ?l__law_with_base ?c__law_with_base ?k__law_with_base ?n__law_with_pair ?l__law_with_pair ?c__law_with_pair ?k__law_with_pair ?n__law_with_row ?l__law_with_row ?c__law_with_row ?k__law_with_row ?n__law_with_number ?l__law_with_number ?c__law_with_number ?k__law_with_number ?n__law_told ?l__law_told ?c__law_told ?k__law_told ?n_law ?l_law ?c_law ?k_law ?z_int ?z_bool ?z_tuple ?z_list ?z_set ?z_isinstance ?z_len ?z_abs ?z_all ?z_any ?z_reversed ?z_range ?z_enumerate ?z_gcd ?gLIMIT ?gLEAST ?gORIGIN ?lORIGIN
    (case gCCT => k_is)
    (case pgCT => k_is)
    (case hdCT => k_is)
    (case poCT => k_is)
    (case saCT => k_is)
    (case kcCT => k_is)
    (case haCT => k_is)
    (case hmCT => k_is)
    (case isCT => k_is)
    (case tyCT => k_is)
    (case naCT => k_is)
    (case mkCT => k_is)
    (case gCCR => k_is)
    (case pgCR => k_is)
    (case hdCR => k_is)
    (case poCR => k_is)
    (case saCR => k_is)
    (case kcCR => k_is)
    (case haCR => k_is)
    (case hmCR => k_is)
    (case isCR => k_is)
    (case tyCR => k_is)
    (case naCR => k_is)
    (case mkCR => k_is)
    (case gnC1 => k_is)
    (case gnC2 => k_is)
    (case gnC3 => k_is)
    (case gnC4 => k_is)
    (case gnCV => k_is)
    (case gnCB => k_is)
    (case z_ValueError => k_is)
    (case bCB => k_is)
    (case hdCB => k_is)
    (case tCB => k_is)
    (case xC1 => k_exc)
    (case kC1 => k_is)
    (case bC1 => k_is)
    (case tC1 => k_is)
    (case sbC1CB => k_is)
    (case svC1 => k_is)
    (case hgC1 => k_is)
    (case hkC1 => k_is)
    (case hdC1 => k_is)
    (case haC1 => k_is)
    (case hmC1 => k_is)
    (case isC1 => k_is)
    (case sbC1C2 => k_is)
    (case neC1C2 => decide)
    (case sbC1C3 => k_is)
    (case neC1C3 => decide)
    (case sbC1C4 => k_is)
    (case neC1C4 => decide)
    (case sbC1CV => k_is)
    (case neC1CV => decide)
    (case xC2 => k_exc)
    (case kC2 => k_is)
    (case bC2 => k_is)
    (case tC2 => k_is)
    (case sbC2CB => k_is)
    (case svC2 => k_is)
    (case hgC2 => k_is)
    (case hkC2 => k_is)
    (case hdC2 => k_is)
    (case haC2 => k_is)
    (case hmC2 => k_is)
    (case isC2 => k_is)
    (case sbC2C1 => k_is)
    (case neC2C1 => decide)
    (case sbC2C3 => k_is)
    (case neC2C3 => decide)
    (case sbC2C4 => k_is)
    (case neC2C4 => decide)
    (case sbC2CV => k_is)
    (case neC2CV => decide)
    (case xC3 => k_exc)
    (case kC3 => k_is)
    (case bC3 => k_is)
    (case tC3 => k_is)
    (case sbC3CB => k_is)
    (case svC3 => k_is)
    (case hgC3 => k_is)
    (case hkC3 => k_is)
    (case hdC3 => k_is)
    (case haC3 => k_is)
    (case hmC3 => k_is)
    (case isC3 => k_is)
    (case sbC3C1 => k_is)
    (case neC3C1 => decide)
    (case sbC3C2 => k_is)
    (case neC3C2 => decide)
    (case sbC3C4 => k_is)
    (case neC3C4 => decide)
    (case sbC3CV => k_is)
    (case neC3CV => decide)
    (case xC4 => k_exc)
    (case kC4 => k_is)
    (case bC4 => k_is)
    (case tC4 => k_is)
    (case sbC4CB => k_is)
    (case svC4 => k_is)
    (case hgC4 => k_is)
    (case hkC4 => k_is)
    (case hdC4 => k_is)
    (case haC4 => k_is)
    (case hmC4 => k_is)
    (case isC4 => k_is)
    (case sbC4C1 => k_is)
    (case neC4C1 => decide)
    (case sbC4C2 => k_is)
    (case neC4C2 => decide)
    (case sbC4C3 => k_is)
    (case neC4C3 => decide)
    (case sbC4CV => k_is)
    (case neC4CV => decide)
    (case xCV => k_exc)
    (case kCV => k_is)
    (case bCV => k_is)
    (case tCV => k_is)
    (case sbCVCB => k_is)
    (case svCV => k_is)
    (case hgCV => k_is)
    (case hkCV => k_is)
    (case hdCV => k_is)
    (case haCV => k_is)
    (case hmCV => k_is)
    (case isCV => k_is)
    (case sbCVC1 => k_is)
    (case neCVC1 => decide)
    (case sbCVC2 => k_is)
    (case neCVC2 => decide)
    (case sbCVC3 => k_is)
    (case neCVC3 => decide)
    (case sbCVC4 => k_is)
    (case neCVC4 => decide)
    (case hn => k_is)
    (case tk => k_is)
    (case n__law_draw => k_is)
    (case l__law_draw => k_is)
    (case c__law_draw => k_is)
    (case k__law_draw => k_is)
    (case n__law_value => k_is)
    (case l__law_value => k_is)
    (case c__law_value => k_is)
    (case k__law_value => k_is)
    (case n__law_cell_at => k_is)
    (case l__law_cell_at => k_is)
    (case c__law_cell_at => k_is)
    (case k__law_cell_at => k_is)
    (case n__law_common => k_is)
    (case l__law_common => k_is)
    (case c__law_common => k_is)
    (case k__law_common => k_is)
    (case n__law_base => k_is)
    (case l__law_base => k_is)
    (case c__law_base => k_is)
    (case k__law_base => k_is)
    (case n__law_size => k_is)
    (case l__law_size => k_is)
    (case c__law_size => k_is)
    (case k__law_size => k_is)
    (case n_is_number => k_is)
    (case l_is_number => k_is)
    (case c_is_number => k_is)
    (case k_is_number => k_is)
    (case n_is_pair => k_is)
    (case l_is_pair => k_is)
    (case c_is_pair => k_is)
    (case k_is_pair => k_is)
    (case n_squares => k_is)
    (case l_squares => k_is)
    (case c_squares => k_is)
    (case k_squares => k_is)
    (case n_is_base => k_is)
    (case l_is_base => k_is)
    (case c_is_base => k_is)
    (case k_is_base => k_is)
    (case n_need_base => k_is)
    (case l_need_base => k_is)
    (case c_need_base => k_is)
    (case k_need_base => k_is)
    (case n_size => k_is)
    (case l_size => k_is)
    (case c_size => k_is)
    (case k_size => k_is)
    (case n_is_row => k_is)
    (case l_is_row => k_is)
    (case c_is_row => k_is)
    (case k_is_row => k_is)
    (case n_need_pair => k_is)
    (case l_need_pair => k_is)
    (case c_need_pair => k_is)
    (case k_need_pair => k_is)
    (case n_times => k_is)
    (case l_times => k_is)
    (case c_times => k_is)
    (case k_times => k_is)
    (case n_pair_of => k_is)
    (case l_pair_of => k_is)
    (case c_pair_of => k_is)
    (case k_pair_of => k_is)
    (case n_read => k_is)
    (case l_read => k_is)
    (case c_read => k_is)
    (case k_read => k_is)
    (case n_pair_by => k_is)
    (case l_pair_by => k_is)
    (case c_pair_by => k_is)
    (case k_pair_by => k_is)
    (case n_inverse => k_is)
    (case l_inverse => k_is)
    (case c_inverse => k_is)
    (case k_inverse => k_is)
    (case n_like_second_unit => k_is)
    (case l_like_second_unit => k_is)
    (case c_like_second_unit => k_is)
    (case k_like_second_unit => k_is)
    (case n_step => k_is)
    (case l_step => k_is)
    (case c_step => k_is)
    (case k_step => k_is)
    (case n_round_from => k_is)
    (case l_round_from => k_is)
    (case c_round_from => k_is)
    (case k_round_from => k_is)
    (case n_round_of => k_is)
    (case l_round_of => k_is)
    (case c_round_of => k_is)
    (case k_round_of => k_is)
    (case n_row_of => k_is)
    (case l_row_of => k_is)
    (case c_row_of => k_is)
    (case k_row_of => k_is)
    (case a_Told___init__ => k_is)
    (case i_Told___init__ => k_is)
    (case l_Told___init__ => k_is)
    (case c_Told___init__ => k_is)
    (case k_Told___init__ => k_is)
    (case a_Round___init__ => k_is)
    (case i_Round___init__ => k_is)
    (case l_Round___init__ => k_is)
    (case c_Round___init__ => k_is)
    (case k_Round___init__ => k_is)
    (case n_told => k_is)
    (case l_told => k_is)
    (case c_told => k_is)
    (case k_told => k_is)
    (case n_tells_all => k_is)
    (case l_tells_all => k_is)
    (case c_tells_all => k_is)
    (case k_tells_all => k_is)
    (case n_number_of => k_is)
    (case l_number_of => k_is)
    (case c_number_of => k_is)
    (case k_number_of => k_is)
    (case n_all_told => k_is)
    (case l_all_told => k_is)
    (case c_all_told => k_is)
    (case k_all_told => k_is)
    (case n__law_kinds => k_is)
    (case l__law_kinds => k_is)
    (case c__law_kinds => k_is)
    (case k__law_kinds => k_is)
    (case n__law_with_base => k_is)
    (case l__law_with_base => k_is)
    (case c__law_with_base => k_is)
    (case k__law_with_base => k_is)
    (case n__law_with_pair => k_is)
    (case l__law_with_pair => k_is)
    (case c__law_with_pair => k_is)
    (case k__law_with_pair => k_is)
    (case n__law_with_row => k_is)
    (case l__law_with_row => k_is)
    (case c__law_with_row => k_is)
    (case k__law_with_row => k_is)
    (case n__law_with_number => k_is)
    (case l__law_with_number => k_is)
    (case c__law_with_number => k_is)
    (case k__law_with_number => k_is)
    (case n__law_told => k_is)
    (case l__law_told => k_is)
    (case c__law_told => k_is)
    (case k__law_told => k_is)
    (case n_law => k_is)
    (case l_law => k_is)
    (case c_law => k_is)
    (case k_law => k_is)
    (case z_int => k_is)
    (case z_bool => k_is)
    (case z_tuple => k_is)
    (case z_list => k_is)
    (case z_set => k_is)
    (case z_isinstance => k_is)
    (case z_len => k_is)
    (case z_abs => k_is)
    (case z_all => k_is)
    (case z_any => k_is)
    (case z_reversed => k_is)
    (case z_range => k_is)
    (case z_enumerate => k_is)
    (case z_gcd => k_is)
    (case gLIMIT => k_is)
    (case gLEAST => k_is)
    (case gORIGIN => k_is)
    (case lORIGIN => k_is)
