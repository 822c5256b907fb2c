/-
  Calls with any arguments, and how many of them are looked at.
-/
import Derived.Test.YtkkfpbnlhgnchaaArgs
namespace Go.Proofs.Ytkkfpbnlhgnchaa
open Go.RowKit Go.Lib
set_option linter.unusedVariables false

theorem As.at {w wr : World} {a : Option Addr} {l : List Ac} (h : As w a l) {F : List Nat} (hs : Stp [] w F wr) {i : Nat} (hi : i < l.length) : ∃ b off, a = some ⟨b, off, none⟩ ∧
    wr.cell? ⟨b, off + i * 5, none⟩ = some (.int .i64 (l[i]!).k) ∧ wr.cell? ⟨b, off + i * 5 + 1, none⟩ = some (.int .i64 (l[i]!).a) ∧ wr.cell? ⟨b, off + i * 5 + 2, none⟩ = some (.int .i64 (l[i]!).b) ∧ wr.cell? ⟨b, off + i * 5 + 3, none⟩ = some (.int .i64 (l[i]!).c) ∧
    wr.cell? ⟨b, off + i * 5 + 4, none⟩ = some (.slice (l[i]!).p (l[i]!).x.length (l[i]!).cap) ∧ Bts w (l[i]!).p (l[i]!).x ∧ (l[i]!).x.length ≤ reachBytes ∧ ((l[i]!).p = none → (l[i]!).cap = 0) := by
  obtain ⟨b, off, h1, hb, h2⟩ := h (by intro e; subst e; simp at hi)
  obtain ⟨c0, c1, c2, c3, c4, c5, c6⟩ := h2 i hi
  have hn : b ∉ ([] : List Nat) := fun h => by cases h
  exact ⟨b, off, h1, (hs.cell (a := ⟨b, _, none⟩) hb hn).trans c0, (hs.cell (a := ⟨b, _, none⟩) hb hn).trans c1, (hs.cell (a := ⟨b, _, none⟩) hb hn).trans c2, (hs.cell (a := ⟨b, _, none⟩) hb hn).trans c3, (hs.cell (a := ⟨b, _, none⟩) hb hn).trans c4, c5, c6⟩

/-- How many bytes all calls have. -/
def total (l : List Ac) : Nat := (l.map fun y => y.x.length).sum
theorem total_take {l : List Ac} {i : Nat} (hi : i < l.length) : total (l.take (i + 1)) = total (l.take i) + (l[i]!).x.length := by
  unfold total
  rw [List.take_succ_eq_append_getElem hi, getElem!_pos l i hi]
  simp only [List.map_append, List.sum_append, List.map_cons, List.map_nil, List.sum_cons, List.sum_nil, Nat.add_zero]
/-- Are they more than are looked at? -/
def Great (l : List Ac) : Bool := decide (150 < l.length) || decide (4000 < total l)

set_option maxHeartbeats 1000000 in
theorem great_run (a : Option Addr) (cap n : Nat) (l : List Ac) (w : World) (hU : As w a l) (hn : n = l.length) (hl : n ≤ 9223372036854775807) :
    Calls Try.prog 12 #[.slice a n cap] w (Tells (.bool (Great l)) w) := by
  have HU : Aside (As w a l ∧ n = l.length) := ⟨hU, hn⟩
  clear hU hn
  go_enter Try.func12, Try.ntmps12
  go_wp2
  go_loopg [3, 8] n (fun gk v3 vi wr => ∃ (k : Nat) (z : Int), v3 = .int .i64 z ∧ vi = .int .i64 (k : Int) ∧ k ≤ n ∧ n - k ≤ gk ∧ Aside (Stp [] w [] wr ∧ (n ≤ 150 → z = (total (l.take k) : Int) ∧ total (l.take k) ≤ k * 140737488351232)))
  case atStart => exact ⟨0, 0, rfl, rfl, by omega, by omega, Stp.refl _ _, fun _ => ⟨by simp [total], by simp [total]⟩⟩
  case round =>
    obtain ⟨k, z, rfl, rfl, hk, hg, HS⟩ := hrel
    by_cases hlt : k < n
    · have hltz : (k : Int) < (n : Int) := by omega
      have hkl : k < l.length := by have := HU.out.2; omega
      obtain ⟨ab, off, rfl, c0, c1, c2, c3, c4, _, hr⟩ := HU.out.1.at HS.out.1 (i := k) hkl
      have HT : Aside (total (l.take (k + 1)) = total (l.take k) + (l[k]!).x.length ∧ (l[k]!).x.length ≤ reachBytes) := ⟨total_take hkl, hr.1⟩
      have H1 : Aside (∀ o, Stp [] w [] (wr.alloc o)) := fun o => HS.out.1.trans (Stp.alloc [] _ _)
      have H2 : Aside (n ≤ 150 → z = (total (l.take k) : Int) ∧ total (l.take k) ≤ k * 140737488351232) := HS.out.2
      clear HS hr hkl
      generalize l[k]! = ac at *
      obtain ⟨y0, y1, y2, y3, yp, yc, yx⟩ := ac
      dsimp only at c0 c1 c2 c3 c4 HT
      go_wp2
      go_roundg (n - (k + 1))
      case measure => omega
      case rel =>
        refine ⟨k + 1, _, rfl, by go_num, by omega, by omega, H1.out _, fun h => ?_⟩
        obtain ⟨e1, e2⟩ := H2.out h
        obtain ⟨e3, e4⟩ := HT.out
        have e5 : reachBytes = 140737488351232 := rfl
        rw [e3]
        rw [e5] at e4
        refine ⟨?_, by omega⟩
        rw [e1]
        unfold wrap64
        omega
    · have hltz : ¬ (k : Int) < (n : Int) := by omega
      obtain rfl : k = n := by omega
      have H1 : Aside (Stp [] w [] wr) := HS.out.1
      by_cases hm : 150 < k
      · have hmz : (150 : Int) < (k : Int) := by omega
        have HG : Aside (Great l = true) := by
          have := HU.out.2
          show (_ || _) = true
          rw [decide_eq_true (by omega)]
          rfl
        go_wp2
        go_ret
        rw [HG.out]
        exact ⟨rfl, H1.out⟩
      · have hmz : ¬ (150 : Int) < (k : Int) := by omega
        have HZ : Aside (z = (total l : Int)) := by
          have h := (HS.out.2 (by omega)).1
          rw [List.take_of_length_le (by have := HU.out.2; omega)] at h
          exact h
        have HM : Aside (decide (150 < l.length) = false) := decide_eq_false (by have := HU.out.2; omega)
        by_cases h4 : 4000 < z
        · have HG : Aside (Great l = true) := by
            show (_ || _) = true
            rw [HM.out, decide_eq_true (by have := HZ.out; omega)]
            rfl
          clear HZ
          go_wp2
          go_ret
          rw [HG.out]
          exact ⟨rfl, H1.out⟩
        · have HG : Aside (Great l = false) := by
            show (_ || _) = false
            rw [HM.out, decide_eq_false (by have := HZ.out; omega)]
            rfl
          clear HZ
          go_wp2
          go_ret
          rw [HG.out]
          exact ⟨rfl, H1.out⟩

/-! ### Each call by any arguments: the answer, and the bytes behind it -/
def insR (N : Nat) (l : List UInt8) (i : Int) (x : List UInt8) : Int × List UInt8 :=
  if i < 0 ∨ (l.length : Int) < i then (3, l) else if N < l.length + x.length then (4, l) else (0, l.take i.toNat ++ x ++ l.drop i.toNat)
def delR (l : List UInt8) (i j : Int) : Int × List UInt8 :=
  if i < 0 ∨ j < i ∨ (l.length : Int) < j then (3, l) else (0, l.take i.toNat ++ l.drop j.toNat)
def movR (l : List UInt8) (i j k : Int) : Int × List UInt8 :=
  if i < 0 ∨ j < i ∨ (l.length : Int) < j then (3, l) else if k < 0 ∨ (l.length : Int) - (j - i) < k then (3, l) else (0, moved l i.toNat j.toNat k.toNat)
/-- What a call answers, and what it leaves. -/
def Acted (b g N : Nat) (r : Int × List UInt8) (W : World) (e : Ending) (w' : World) : Prop := e = .returned (.int .i64 r.1) ∧ Ar w' b g N r.2 ∧ Stp [b, g] W [b, g] w'
section
variable {W : World} {b g N : Nat} {l : List UInt8}
theorem acted_same {f : FuncId} {xs : Array Value} {z : Int} (h : Ar W b g N l) (k : Calls Try.prog f xs W (Tells (.int .i64 z) W)) : Calls Try.prog f xs W (Acted b g N (z, l) W) :=
  k.mono fun e w' ⟨h1, h2⟩ => ⟨h1, h.stays h2, h2.more (fun k h => by cases h)⟩
theorem ins_any (h : Ar W b g N l) (i : Int) (p : Option Addr) (x : List UInt8) (n c : Nat) (hx : Bts W p x) (hd : x ≠ [] → ∀ ad, p = some ad → ad.block ≠ g) (hl : n = x.length) :
    Calls Try.prog 13 #[.pointer (some ⟨b, 0, none⟩), .int .i64 i, .slice p n c] W (Acted b g N (insR N l i x) W) := by
  unfold insR
  by_cases h1 : i < 0 ∨ (l.length : Int) < i
  · rw [if_pos h1]
    exact acted_same h (Gives.tells (insert_out h i _ h1))
  · rw [if_neg h1]
    obtain ⟨k, rfl⟩ : ∃ k : Nat, i = (k : Int) := ⟨i.toNat, by omega⟩
    by_cases h2 : N < l.length + x.length
    · rw [if_pos h2]
      exact acted_same h (Says.tells (insert_full h k p n c (by omega) (by omega)))
    · rw [if_neg h2, Int.toNat_natCast]
      exact (insert_run h k p x n c hx hd hl (by omega) (by omega)).mono fun e w' ⟨h1, h2, h3⟩ => ⟨h1, h2, h3⟩
theorem del_any (h : Ar W b g N l) (i j : Int) : Calls Try.prog 15 #[.pointer (some ⟨b, 0, none⟩), .int .i64 i, .int .i64 j] W (Acted b g N (delR l i j) W) := by
  unfold delR
  by_cases h1 : i < 0 ∨ j < i ∨ (l.length : Int) < j
  · rw [if_pos h1]
    exact acted_same h (Gives.tells (delete_no h i j h1))
  · rw [if_neg h1]
    obtain ⟨k, rfl⟩ : ∃ k : Nat, i = (k : Int) := ⟨i.toNat, by omega⟩
    obtain ⟨m, rfl⟩ : ∃ m : Nat, j = (m : Int) := ⟨j.toNat, by omega⟩
    rw [Int.toNat_natCast, Int.toNat_natCast]
    exact (delete_run h k m (by omega) (by omega)).mono fun e w' ⟨h1, h2, h3⟩ => ⟨h1, h2, h3⟩
theorem mov_any (h : Ar W b g N l) (i j k : Int) : Calls Try.prog 17 #[.pointer (some ⟨b, 0, none⟩), .int .i64 i, .int .i64 j, .int .i64 k] W (Acted b g N (movR l i j k) W) := by
  unfold movR
  by_cases h1 : i < 0 ∨ j < i ∨ (l.length : Int) < j
  · rw [if_pos h1]
    exact acted_same h (Gives.tells (move_no h i j k h1))
  · rw [if_neg h1]
    obtain ⟨q, rfl⟩ : ∃ q : Nat, i = (q : Int) := ⟨i.toNat, by omega⟩
    obtain ⟨m, rfl⟩ : ∃ m : Nat, j = (m : Int) := ⟨j.toNat, by omega⟩
    by_cases h2 : k < 0 ∨ (l.length : Int) - ((m : Int) - (q : Int)) < k
    · rw [if_pos h2]
      exact acted_same h (Gives.tells (move_out h q m (m - q) k (by omega) (by omega) (by omega) (by omega)))
    · rw [if_neg h2]
      obtain ⟨t, rfl⟩ : ∃ t : Nat, k = (t : Int) := ⟨k.toNat, by omega⟩
      rw [Int.toNat_natCast, Int.toNat_natCast, Int.toNat_natCast]
      exact (move_run h q m t (by omega) (by omega) (by omega)).mono fun e w' ⟨h1, h2, h3⟩ => ⟨h1, h2, h3⟩
end
end Go.Proofs.Ytkkfpbnlhgnchaa
