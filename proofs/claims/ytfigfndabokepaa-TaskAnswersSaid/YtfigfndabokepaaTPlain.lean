/- Plain words of work: tasks, parted and done. No program in it. -/
import Derived.Test.YtfigfndabokepaaCPlain
import Derived.Test.YtfigfndabokepaaData
namespace Go.Proofs.Ytfigfndabokepaa.Plain

def tk0 : Tk := ⟨0, 0, 0, 0⟩
/-- may a task be, the i-th of work of n units? -/
def tkOk (n i : Nat) (t : Tk) : Bool := decide (0 ≤ t.lo) && decide (t.lo < t.hi) && decide (t.hi ≤ (n : Int)) && decide (-1 ≤ t.up) && decide (t.up < (i : Int)) && decide (0 ≤ t.wt) && decide (t.wt ≤ 2)
theorem tkOk_iff (n i : Nat) (t : Tk) : tkOk n i t = true ↔ 0 ≤ t.lo ∧ t.lo < t.hi ∧ t.hi ≤ (n : Int) ∧ -1 ≤ t.up ∧ t.up < (i : Int) ∧ 0 ≤ t.wt ∧ t.wt ≤ 2 := by
  unfold tkOk
  simp only [Bool.and_eq_true, decide_eq_true_eq]
  constructor
  · rintro ⟨⟨⟨⟨⟨⟨a, b⟩, c⟩, d⟩, e⟩, f⟩, g⟩; exact ⟨a, b, c, d, e, f, g⟩
  · rintro ⟨a, b, c, d, e, f, g⟩; exact ⟨⟨⟨⟨⟨⟨a, b⟩, c⟩, d⟩, e⟩, f⟩, g⟩
def wSized (g : Int) (n m : Nat) : Bool := decide (1 ≤ g) && decide (g ≤ 100) && decide (1 ≤ n) && decide (n ≤ 1000) && decide (1 ≤ m) && decide (m ≤ 2000)
theorem wSized_iff (g : Int) (n m : Nat) : wSized g n m = true ↔ 1 ≤ g ∧ g ≤ 100 ∧ 1 ≤ n ∧ n ≤ 1000 ∧ 1 ≤ m ∧ m ≤ 2000 := by
  unfold wSized
  simp only [Bool.and_eq_true, decide_eq_true_eq]
  constructor
  · rintro ⟨⟨⟨⟨⟨a, b⟩, c⟩, d⟩, e⟩, f⟩; exact ⟨a, b, c, d, e, f⟩
  · rintro ⟨a, b, c, d, e, f⟩; exact ⟨⟨⟨⟨⟨a, b⟩, c⟩, d⟩, e⟩, f⟩
/-- are the first k tasks such as may be? -/
def wOkTo (ts : List Tk) (n k : Nat) : Bool := (List.range k).all fun i => tkOk n i (ts.getD i tk0)
/-- may work be? -/
def wRight (ts : List Tk) (g : Int) (n : Nat) : Bool := wSized g n ts.length && wOkTo ts n ts.length
theorem wOkTo_succ (ts : List Tk) (n k : Nat) : wOkTo ts n (k + 1) = (wOkTo ts n k && tkOk n k (ts.getD k tk0)) := by
  unfold wOkTo; rw [List.range_succ, List.all_append]; simp
theorem wOkTo_zero (ts : List Tk) (n : Nat) : wOkTo ts n 0 = true := rfl
theorem wOkTo_at (ts : List Tk) (n k : Nat) (h : wOkTo ts n k = true) (i : Nat) (hi : i < k) : tkOk n i (ts.getD i tk0) = true := by
  unfold wOkTo at h
  rw [List.all_eq_true] at h
  exact h i (List.mem_range.2 hi)
theorem wOkTo_no (ts : List Tk) (n m k : Nat) (hk : k < m) (h : tkOk n k (ts.getD k tk0) = false) : wOkTo ts n m = false := by
  rw [Bool.eq_false_iff]
  intro hh
  rw [wOkTo_at ts n m hh k hk] at h
  cases h
def wHas (m : Nat) (i : Int) : Bool := decide (0 ≤ i) && decide (i < (m : Int))
def tkAt (ts : List Tk) (i : Int) : Tk := ts.getD i.toNat tk0
def wGreat (ts : List Tk) (g : Int) (n : Nat) (i : Int) : Bool := wRight ts g n && wHas ts.length i && decide (g < (tkAt ts i).hi - (tkAt ts i).lo)
/-- how many tasks, and leaves, so many units come to: 'f' bounds how often they are parted -/
def cnt (g : Nat) : Nat → Nat → Nat × Nat
  | 0, _ => (1, 1)
  | f + 1, n => if n ≤ g then (1, 1) else ((cnt g f (n / 2)).1 + (cnt g f (n - n / 2)).1 + 1, (cnt g f (n / 2)).2 + (cnt g f (n - n / 2)).2)
theorem cnt_fuel (g : Nat) (hg : 1 ≤ g) : ∀ (f f' n : Nat), n ≤ f → n ≤ f' → cnt g f n = cnt g f' n
  | 0, 0, _, _, _ => rfl
  | 0, f' + 1, n, h, _ => by
    obtain rfl : n = 0 := by omega
    simp [cnt]
  | f + 1, 0, n, _, h => by
    obtain rfl : n = 0 := by omega
    simp [cnt]
  | f + 1, f' + 1, n, h, h' => by
    simp only [cnt]
    by_cases hn : n ≤ g
    · rw [if_pos hn, if_pos hn]
    · rw [if_neg hn, if_neg hn, cnt_fuel g hg f f' (n / 2) (by omega) (by omega), cnt_fuel g hg f f' (n - n / 2) (by omega) (by omega)]
/-- .. of n units -/
def cntT (n g : Nat) : Nat := (cnt g n n).1
def cntL (n g : Nat) : Nat := (cnt g n n).2
theorem cnt_one (n g : Nat) (h : n ≤ g) : cntT n g = 1 ∧ cntL n g = 1 := by
  unfold cntT cntL
  cases n with
  | zero => exact ⟨rfl, rfl⟩
  | succ n => simp [cnt, h]
theorem cnt_more (n g : Nat) (hg : 1 ≤ g) (h : g < n) : cntT n g = cntT (n / 2) g + cntT (n - n / 2) g + 1 ∧ cntL n g = cntL (n / 2) g + cntL (n - n / 2) g := by
  unfold cntT cntL
  obtain ⟨f, rfl⟩ : ∃ f, n = f + 1 := ⟨n - 1, by omega⟩
  have e : cnt g (f + 1) (f + 1) = ((cnt g f ((f + 1) / 2)).1 + (cnt g f (f + 1 - (f + 1) / 2)).1 + 1, (cnt g f ((f + 1) / 2)).2 + (cnt g f (f + 1 - (f + 1) / 2)).2) := by
    simp only [cnt]; rw [if_neg (by omega)]
  rw [e, cnt_fuel g hg f ((f + 1) / 2) _ (by omega) (by omega), cnt_fuel g hg f (f + 1 - (f + 1) / 2) (f + 1 - (f + 1) / 2) (by omega) (by omega)]
  exact ⟨rfl, rfl⟩
/-- Count: the tasks, and the leaves, or none -/
def cOk (n g : Int) : Bool := decide (1 ≤ n) && decide (n ≤ 1000) && decide (1 ≤ g) && decide (g ≤ 100)
def countT (n g : Int) : Int := if cOk n g = true then (cntT n.toNat g.toNat : Int) else 0
def countL (n g : Int) : Int := if cOk n g = true then (cntL n.toNat g.toNat : Int) else 0
theorem cnt_bd (g : Nat) (hg : 1 ≤ g) : ∀ (f n : Nat), n ≤ f → 1 ≤ n → cntT n g + 1 = 2 * cntL n g ∧ 1 ≤ cntL n g ∧ cntL n g ≤ n ∧ n ≤ cntL n g * g
  | 0, n, h, h1 => by omega
  | f + 1, n, h, h1 => by
    by_cases hn : n ≤ g
    · obtain ⟨a, b⟩ := cnt_one n g hn
      rw [a, b]; omega
    · obtain ⟨a, b⟩ := cnt_more n g hg (by omega)
      obtain ⟨p1, p2, p3, p4⟩ := cnt_bd g hg f (n / 2) (by omega) (by omega)
      obtain ⟨q1, q2, q3, q4⟩ := cnt_bd g hg f (n - n / 2) (by omega) (by omega)
      rw [a, b, Nat.add_mul]
      omega
theorem count_ok (n g : Nat) (h1 : 1 ≤ n) (h2 : n ≤ 1000) (h3 : 1 ≤ g) (h4 : g ≤ 100) : countT n g = cntT n g ∧ countL n g = cntL n g ∧ cntT n g ≤ 2000 ∧ cntL n g ≤ 1000 := by
  have hc : cOk n g = true := by unfold cOk; simp; omega
  have hb := cnt_bd g h3 n n (Nat.le_refl _) h1
  unfold countT countL
  rw [if_pos hc, if_pos hc, Int.toNat_natCast, Int.toNat_natCast]
  exact ⟨rfl, rfl, by omega, by omega⟩
theorem count_no (n g : Int) (h : n < 1 ∨ 1000 < n ∨ g < 1 ∨ 100 < g) : countT n g = 0 ∧ countL n g = 0 := by
  have hc : cOk n g = false := by unfold cOk; simp; omega
  unfold countT countL
  rw [hc]; exact ⟨rfl, rfl⟩
theorem cnt_mono_g (g g' : Nat) (hg : 1 ≤ g) (hgg : g ≤ g') : ∀ (f n : Nat), n ≤ f → 1 ≤ n → cntL n g' ≤ cntL n g
  | 0, n, h, h1 => by omega
  | f + 1, n, h, h1 => by
    by_cases hn : n ≤ g'
    · rw [(cnt_one n g' hn).2]; exact (cnt_bd g hg n n (Nat.le_refl _) h1).2.1
    · rw [(cnt_more n g' (by omega) (by omega)).2, (cnt_more n g hg (by omega)).2]
      have := cnt_mono_g g g' hg hgg f (n / 2) (by omega) (by omega)
      have := cnt_mono_g g g' hg hgg f (n - n / 2) (by omega) (by omega)
      omega
end Go.Proofs.Ytfigfndabokepaa.Plain
