/-
  Heaps, as functions of the places: what a step up and a step down leaves; entries of a queue, their rank, and lists of them in order.
-/
import Derived.Test.YtjjaaahoophgpaaFloat
namespace Go.Proofs.Ytjjaaahoophgpaa
set_option linter.unusedVariables false

/-- A moment: a word of 64 bits. -/
structure Mo where
  v : Nat
  lt : v < 2 ^ 64
instance : Inhabited Mo := ⟨⟨0, by omega⟩⟩
def Mo.key (x : Mo) : Nat := keyN x.v
theorem Mo.eq_of {x y : Mo} (h : x.v = y.v) : x = y := by
  cases x; cases y; simp at h; subst h; rfl

/-- An entry: its moment, its number, its turn. -/
structure Ent where
  m : Mo
  n : Int
  t : Nat
  tl : t < 4611686018427387904
instance : Inhabited Ent := ⟨⟨default, 0, 0, by omega⟩⟩
def Ent.rk (e : Ent) : Nat := e.m.key * 4611686018427387904 + e.t
theorem cmpN_neg {x y : Mo} : cmpN x.v y.v < 0 ↔ x.key < y.key := by
  unfold cmpN cmpK Mo.key
  (repeat' split) <;> omega
theorem cmpN_zero {x y : Mo} : cmpN x.v y.v = 0 ↔ x.key = y.key := by
  unfold cmpN cmpK Mo.key
  (repeat' split) <;> omega
theorem cmpN_le {x y : Mo} : cmpN x.v y.v ≤ 0 ↔ x.key ≤ y.key := by
  unfold cmpN cmpK Mo.key
  (repeat' split) <;> omega

/-! ### Heaps -/
def Heap (n : Nat) (f : Nat → Nat) : Prop := ∀ c, 0 < c → c < n → f ((c - 1) / 2) ≤ f c
/-- A heap but for what stands at j, which may be too small for its place. -/
def UpOk (n : Nat) (f : Nat → Nat) (j : Nat) : Prop := ∀ c, 0 < c → c < n → (c ≠ j → f ((c - 1) / 2) ≤ f c) ∧ ((c - 1) / 2 = j → 0 < j → f ((j - 1) / 2) ≤ f c)
/-- A heap but for what stands at i, which may be too great for its place. -/
def DownOk (n : Nat) (f : Nat → Nat) (i : Nat) : Prop := ∀ c, 0 < c → c < n → ((c - 1) / 2 ≠ i → f ((c - 1) / 2) ≤ f c) ∧ ((c - 1) / 2 = i → 0 < i → f ((i - 1) / 2) ≤ f c)

theorem UpOk.of_heap {n : Nat} {f g : Nat → Nat} (h : Heap n f) (hg : ∀ k, k < n → g k = f k) : UpOk (n + 1) g n := by
  intro c h0 hc
  refine ⟨fun hne => ?_, fun hp _ => by omega⟩
  rw [hg c (by omega), hg _ (by omega)]
  exact h c h0 (by omega)
theorem UpOk.top {n j : Nat} {f : Nat → Nat} (h : UpOk n f j) (hj : j = 0 ∨ f ((j - 1) / 2) ≤ f j) : Heap n f := by
  intro c h0 hc
  rcases Nat.decEq c j with e | e
  · exact (h c h0 hc).1 e
  · subst e
    rcases hj with e | e
    · omega
    · exact e
theorem UpOk.step {n j i : Nat} {f g : Nat → Nat} (h : UpOk n f j) (h0 : 0 < j) (hj : j < n) (hi : i = (j - 1) / 2) (hlt : f j < f i) (gi : g i = f j) (gj : g j = f i) (go : ∀ k, k ≠ i → k ≠ j → g k = f k) : UpOk n g i := by
  intro c hc0 hc
  have hcj := h c hc0 hc
  refine ⟨fun hne => ?_, fun hp hi0 => ?_⟩
  · by_cases e : c = j
    · subst e
      rw [← hi, gi, gj]
      omega
    · rw [go c hne e]
      by_cases p : (c - 1) / 2 = j
      · have := hcj.2 p h0
        rw [p, gj]
        rw [← hi] at this
        exact this
      · by_cases q : (c - 1) / 2 = i
        · have := hcj.1 e
          rw [q] at this ⊢
          rw [gi]
          omega
        · rw [go _ q p]
          exact hcj.1 e
  · have hii := (h i hi0 (by omega)).1 (by omega)
    have e1 : (i - 1) / 2 ≠ i := by omega
    have e2 : (i - 1) / 2 ≠ j := by omega
    rw [go _ e1 e2]
    by_cases e : c = j
    · subst e
      rw [gj]
      exact hii
    · have := hcj.1 e
      rw [hp] at this
      rw [go c (by omega) e]
      omega
theorem DownOk.of_heap {n : Nat} {f g : Nat → Nat} (h : Heap n f) (m : Nat) (hm : m ≤ n) (hg : ∀ k, 0 < k → k < m → g k = f k) : DownOk m g 0 := by
  intro c h0 hc
  refine ⟨fun hp => ?_, fun _ h => by omega⟩
  rw [hg c h0 hc, hg _ (by omega) (by omega)]
  exact h c h0 (by omega)
theorem DownOk.leaf {n i : Nat} {f : Nat → Nat} (h : DownOk n f i) (hi : n ≤ 2 * i + 1) : Heap n f := by
  intro c h0 hc
  exact (h c h0 hc).1 (by omega)
theorem DownOk.done {n i j : Nat} {f : Nat → Nat} (h : DownOk n f i) (hj : j = 2 * i + 1 ∨ j = 2 * i + 2) (hjn : j < n) (h1 : 2 * i + 1 < n → f j ≤ f (2 * i + 1)) (h2 : 2 * i + 2 < n → f j ≤ f (2 * i + 2)) (hle : f i ≤ f j) : Heap n f := by
  intro c h0 hc
  by_cases p : (c - 1) / 2 = i
  · rw [p]
    have : c = 2 * i + 1 ∨ c = 2 * i + 2 := by omega
    rcases this with e | e
    · have := h1 (by omega)
      rw [e]; omega
    · have := h2 (by omega)
      rw [e]; omega
  · exact (h c h0 hc).1 p
theorem DownOk.step {n i j : Nat} {f g : Nat → Nat} (h : DownOk n f i) (hj : j = 2 * i + 1 ∨ j = 2 * i + 2) (hjn : j < n) (h1 : 2 * i + 1 < n → f j ≤ f (2 * i + 1)) (h2 : 2 * i + 2 < n → f j ≤ f (2 * i + 2)) (hlt : f j < f i)
    (gi : g i = f j) (gj : g j = f i) (go : ∀ k, k ≠ i → k ≠ j → g k = f k) : DownOk n g j := by
  intro c hc0 hc
  have hci := h c hc0 hc
  refine ⟨fun hp => ?_, fun hp hj0 => ?_⟩
  · by_cases p : (c - 1) / 2 = i
    · rw [p, gi]
      have : c = 2 * i + 1 ∨ c = 2 * i + 2 := by omega
      by_cases e : c = j
      · subst e
        rw [gj]
        omega
      · rw [go c (by omega) e]
        rcases this with e' | e'
        · have := h1 (by omega)
          rw [e']; exact this
        · have := h2 (by omega)
          rw [e']; exact this
    · have h3 := hci.1 p
      rw [go _ p hp]
      by_cases e : c = i
      · subst e
        have := (h j (by omega) hjn).2 (by omega) hc0
        rw [gi]
        exact this
      · rw [go c e (by omega)]
        exact h3
  · have : (j - 1) / 2 = i := by omega
    rw [this, gi]
    have h3 := hci.1 (by omega)
    rw [hp] at h3
    rw [go c (by omega) (by omega)]
    exact h3
theorem Heap.least {n : Nat} {f : Nat → Nat} (h : Heap n f) : ∀ c, c < n → f 0 ≤ f c := by
  intro c
  induction c using Nat.strongRecOn with
  | _ c ih =>
    intro hc
    by_cases e : c = 0
    · subst e; exact Nat.le_refl _
    · have := h c (by omega) hc
      have := ih ((c - 1) / 2) (by omega) (by omega)
      omega

/-! ### Lists of entries -/
def rkl (l : List Ent) (k : Nat) : Nat := (l[k]!).rk
/-- Two places exchanged. -/
def sw (l : List Ent) (i j : Nat) : List Ent := (l.set i (l[j]!)).set j (l[i]!)
theorem sw_length (l : List Ent) (i j : Nat) : (sw l i j).length = l.length := by simp [sw]
theorem sw_at (l : List Ent) {i j k : Nat} (hi : i < l.length) (hj : j < l.length) (hk : k < l.length) : (sw l i j)[k]! = if k = j then l[i]! else if k = i then l[j]! else l[k]! := by
  unfold sw
  rw [getElem!_pos _ k (by simpa using hk), List.getElem_set, List.getElem_set]
  by_cases e : k = j
  · rw [if_pos e.symm, if_pos e]
  · rw [if_neg (by omega), if_neg e]
    by_cases f : k = i
    · rw [if_pos f.symm, if_pos f]
    · rw [if_neg (by omega), if_neg f, getElem!_pos l k hk]
theorem sw_perm (l : List Ent) {i j : Nat} (hi : i < l.length) (hj : j < l.length) : (sw l i j).Perm l := by
  unfold sw
  rw [getElem!_pos l j hj, getElem!_pos l i hi]
  exact List.set_set_perm hi hj
end Go.Proofs.Ytjjaaahoophgpaa
