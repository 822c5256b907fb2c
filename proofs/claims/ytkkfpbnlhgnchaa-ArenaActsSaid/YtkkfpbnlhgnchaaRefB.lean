/-
  The document's Move and Cell; and its calls by any arguments.
-/
import Derived.Test.YtkkfpbnlhgnchaaRefA
namespace Go.Proofs.Ytkkfpbnlhgnchaa
open Go.RowKit Go.Lib
set_option linter.unusedVariables false

section
variable {W : World} {p N c : Nat} {A : Option Addr} {l : List UInt8}
theorem rmov_no (h : Rf W p N A c l) (i j k : Int) (hi : i < 0 ∨ j < i ∨ (l.length : Int) < j) : Calls Try.prog 18 #[.pointer (some ⟨p, 0, none⟩), .int .i64 i, .int .i64 j, .int .i64 k] W (Gives (.int .i64 3) W) := by
  have c0 := h.c0
  clear h
  generalize l.length = n at *
  by_cases h0 : i < 0
  · clear hi
    go_enter Try.func18, Try.ntmps18
    go_wp2
    go_ret
    exact ⟨rfl, rfl⟩
  · by_cases h1 : j < i
    · clear hi
      go_enter Try.func18, Try.ntmps18
      go_wp2
      go_ret
      exact ⟨rfl, rfl⟩
    · have h2 : (n : Int) < j := by omega
      clear hi
      go_enter Try.func18, Try.ntmps18
      go_wp2
      go_ret
      exact ⟨rfl, rfl⟩
theorem rmov_out (h : Rf W p N A c l) (i j d : Nat) (k : Int) (hi : i ≤ j) (hj : j ≤ l.length) (hd : i + d = j) (hl : l.length ≤ 4096) (hk : k < 0 ∨ (l.length : Int) - (d : Int) < k) :
    Calls Try.prog 18 #[.pointer (some ⟨p, 0, none⟩), .int .i64 (i : Int), .int .i64 (j : Int), .int .i64 k] W (Gives (.int .i64 3) W) := by
  have c0 := h.c0
  clear h
  generalize l.length = n at *
  have i1 : ¬ (i : Int) < 0 := by omega
  have i2 : ¬ (j : Int) < (i : Int) := by omega
  have i3 : ¬ (n : Int) < (j : Int) := by omega
  have e1 : IntKind.i64.wrap ((j : Int) - (i : Int)) = (d : Int) := by rw [IntKind.wrap_i64]; omega
  have e2 : IntKind.i64.wrap ((n : Int) - (d : Int)) = (n : Int) - (d : Int) := by rw [IntKind.wrap_i64]; omega
  clear hd
  by_cases h0 : k < 0
  · clear hk
    go_enter Try.func18, Try.ntmps18
    go_wp2
    go_ret
    exact ⟨rfl, rfl⟩
  · have h1 : (n : Int) - (d : Int) < k := by omega
    clear hk
    go_enter Try.func18, Try.ntmps18
    go_wp2
    go_ret
    exact ⟨rfl, rfl⟩
set_option maxHeartbeats 3200000 in
set_option maxRecDepth 100000 in
theorem rmov_run (h : Rf W p N A c l) (i j k : Nat) (hi : i ≤ j) (hj : j ≤ l.length) (hk : k + (j - i) ≤ l.length) (hl : l.length ≤ 4096) (hN : l.length ≤ N) :
    Calls Try.prog 18 #[.pointer (some ⟨p, 0, none⟩), .int .i64 (i : Int), .int .i64 (j : Int), .int .i64 (k : Int)] W (Refd p N A (0, moved l i j k) W) := by
  have c0 := h.c0
  obtain ⟨n, hn⟩ : ∃ n, n = l.length := ⟨_, rfl⟩
  obtain ⟨d, hd⟩ : ∃ d, d = j - i := ⟨_, rfl⟩
  have hcap := h.cap
  have H : Aside (Rf W p N A c l ∧ n = l.length ∧ d = j - i ∧ i ≤ j ∧ j ≤ l.length ∧ k + (j - i) ≤ l.length ∧ l.length ≤ 4096 ∧ l.length ≤ N) := ⟨h, hn, hd, hi, hj, hk, hl, hN⟩
  have hjc : j ≤ c := by omega
  have s1 := cut_lh A n c i j hi hjc
  have hS : Bts W (cutp A i c) ((l.drop i).take (j - i)) := h.bts.cut hi hj hcap
  have hSl : d = ((l.drop i).take (j - i)).length := by rw [hd]; simp; omega
  have HB : Aside (Bts W (cutp A i c) ((l.drop i).take (j - i)) ∧ (cutp A i c = none → c - i = 0) ∧ d = ((l.drop i).take (j - i)).length) := ⟨hS, cutp_nil h.nil, hSl⟩
  obtain ⟨Ai, eAi⟩ : ∃ a, a = cutp A i c := ⟨_, rfl⟩
  obtain ⟨ci, eci⟩ : ∃ k, k = c - i := ⟨_, rfl⟩
  obtain ⟨X, eX⟩ : ∃ X, X = (l.drop i).take (j - i) := ⟨_, rfl⟩
  rw [← eAi, ← eci, ← hd] at s1
  rw [← eAi, ← eci, ← eX] at HB
  have HX : Aside (X = (l.drop i).take (j - i)) := eX
  have i1 : ¬ (i : Int) < 0 := by omega
  have i2 : ¬ (j : Int) < (i : Int) := by omega
  have i3 : ¬ (n : Int) < (j : Int) := by omega
  have i4 : ¬ (k : Int) < 0 := by omega
  have i5 : ¬ (n : Int) - (d : Int) < (k : Int) := by omega
  have e1 : IntKind.i64.wrap ((j : Int) - (i : Int)) = (d : Int) := by rw [IntKind.wrap_i64]; omega
  have e2 : IntKind.i64.wrap ((n : Int) - (d : Int)) = (n : Int) - (d : Int) := by rw [IntKind.wrap_i64]; omega
  rw [← hn] at c0
  have hbl := h.lt
  clear h hn hd hi hj hk hl hN hcap hjc hS hSl eAi eci eX
  go_enter Try.func18, Try.ntmps18
  go_wp2_with (first
    | (at_builtin
       refine wpList_app rfl (.tmp 43) (.tmp 50) rfl W.heap.size (.slice (some ⟨W.heap.size, 0, none⟩) 0 0) [] rfl (Own.new W) Ai ci d X HB.out.2.2 rfl (HB.out.1.stays (Stp.alloc [] W _)) HB.out.2.1 (by have h1 := HB.out.2.2; have h2 := H.out.2.2.1; have h3 := H.out.2.2.2; simp; omega) (by simp) ?_
       intro v1 w1 ho1 hg1
       rw [List.nil_append] at ho1
       obtain ⟨A1, c1, rfl, hb1, hn1, hc1, hbb1⟩ := ho1.bts
       have H1 : Aside (Stp [] W [] w1 ∧ Bts w1 A1 X ∧ (A1 = none → c1 = 0) ∧ ∀ ad, A1 = some ad → W.heap.size ≤ ad.block) := ⟨(Stp.alloc [] W _).app hg1 (fun k hk => by cases hk; exact Nat.le_refl _), hb1, hn1, fun ad e => (hbb1 ad e).1⟩
       clear ho1 hg1 hb1 hn1 hc1 hbb1))
  have hR := H.out.1.stays H1.out.1
  have K1 := Lib.hid (rdel_run hR i j H.out.2.2.2.1 H.out.2.2.2.2.1 H.out.2.2.2.2.2.2.1)
  clear hR
  refine K1.out.mono ?_
  rintro _ w2 ⟨rfl, A2, c2, r2, a2, q2⟩
  have hD : (l.take i ++ l.drop j).length = n - d := by have := H.out; simp; omega
  have K2 := Lib.hid (rins_run r2 k A1 X d c1 (H1.out.2.1.other q2 (fun _ ad e => by have := H1.out.2.2.2 ad e; simp; omega)) H1.out.2.2.1 HB.out.2.2 (by have := H.out; show k ≤ (l.take i ++ l.drop j).length; omega) (by have := H.out; show (l.take i ++ l.drop j).length ≤ 4096; omega) (by have := H.out; omega) (by have := H.out; show (l.take i ++ l.drop j).length + d ≤ N; omega))
  have H2 : Aside (Stp [p] W [p] w2 ∧ ∀ ad, A2 = some ad → A = some ad ∨ W.heap.size ≤ ad.block) := ⟨(H1.out.1.more (fun k h => by cases h)).trans q2, fun ad e => (a2 ad e).imp id (fun h => Nat.le_trans H1.out.1.size h)⟩
  obtain ⟨m1, em1⟩ : ∃ m, m = X.length := ⟨_, rfl⟩
  have hdm : m1 = d := by have := HB.out.2.2; omega
  clear K1 r2 a2 q2 hD
  go_wp2_with fail
  rw [← em1, hdm]
  refine K2.out.mono ?_
  rintro _ w3 ⟨rfl, A3, c3, r3, a3, q3⟩
  have H3 : Aside (Rf w3 p N A3 c3 (moved l i j k) ∧ (∀ ad, A3 = some ad → A = some ad ∨ W.heap.size ≤ ad.block) ∧ Stp [p] W [p] w3) := by
    refine ⟨?_, fun ad e => ?_, H2.out.1.trans q3⟩
    · rw [HX.out] at r3
      exact r3
    · rcases a3 ad e with h | h
      · exact H2.out.2 ad h
      · exact .inr (Nat.le_trans H2.out.1.size h)
  clear K2 r3 a3 q3 H2
  go_wp2
  go_ret
  exact ⟨rfl, _, _, H3.out.1, H3.out.2.1, H3.out.2.2⟩
theorem pad_at {N i : Nat} {l : List UInt8} (hi : i < l.length) : (pad N l)[i]! = l[i]! := by
  rw [getElem!_pos _ i (by simp [pad]; omega), getElem!_pos l i hi]
  simp [pad, List.getElem_append_left hi]
theorem pad_behind {N : Nat} {l : List UInt8} {i : Nat} (h : l.length ≤ i) (hi : i < N) : (pad N l)[i]! = 0 := by
  rw [getElem!_pos _ i (by simp [pad]; omega)]
  simp [pad, List.getElem_append_right h]
theorem rcell_run (h : Rf W p N A c l) (i : Nat) (hi : i < N) : Calls Try.prog 26 #[.pointer (some ⟨p, 0, none⟩), .int .i64 (i : Int)] W (Gives (bval ((pad N l)[i]!)) W) := by
  have c0 := h.c0
  by_cases hl : i < l.length
  · rw [pad_at hl]
    obtain ⟨b, off, rfl, hc⟩ := h.bts.at hl
    generalize l[i]! = x at *
    unfold bval at *
    have i1 : (i : Int) < (l.length : Int) := by omega
    clear h
    generalize l.length = n at *
    generalize ((x.toNat : Nat) : Int) = z at *
    go_enter Try.func26, Try.ntmps26
    go_wp2
    go_ret
    exact ⟨rfl, rfl⟩
  · rw [pad_behind (by omega) hi]
    have i1 : ¬ (i : Int) < (l.length : Int) := by omega
    clear h
    generalize l.length = n at *
    go_enter Try.func26, Try.ntmps26
    go_wp2
    go_ret
    exact ⟨rfl, rfl⟩

/-! ### By any arguments -/
theorem refd_same {f : FuncId} {xs : Array Value} {z : Int} (h : Rf W p N A c l) (k : Calls Try.prog f xs W (Tells (.int .i64 z) W)) : Calls Try.prog f xs W (Refd p N A (z, l) W) :=
  k.mono fun e w' ⟨h1, h2⟩ => ⟨h1, A, c, h.stays h2, fun ad e => .inl e, h2.more (fun k h => by cases h)⟩
theorem rins_any (h : Rf W p N A c l) (i : Int) (P : Option Addr) (x : List UInt8) (m cx : Nat) (hx : Bts W P x) (hP : P = none → cx = 0) (hm : m = x.length) (hl : l.length ≤ 4096) (hm2 : m ≤ 4096) :
    Calls Try.prog 14 #[.pointer (some ⟨p, 0, none⟩), .int .i64 i, .slice P m cx] W (Refd p N A (insR N l i x) W) := by
  unfold insR
  by_cases h1 : i < 0 ∨ (l.length : Int) < i
  · rw [if_pos h1]
    exact refd_same h (Gives.tells (rins_out h i _ h1))
  · rw [if_neg h1]
    obtain ⟨k, rfl⟩ : ∃ k : Nat, i = (k : Int) := ⟨i.toNat, by omega⟩
    by_cases h2 : N < l.length + x.length
    · rw [if_pos h2]
      exact refd_same h (Says.tells (rins_full h k P m cx (by omega) hl hm2 (by omega)))
    · rw [if_neg h2, Int.toNat_natCast]
      exact rins_run h k P x m cx hx hP hm (by omega) hl hm2 (by omega)
theorem rdel_any (h : Rf W p N A c l) (i j : Int) (hl : l.length ≤ 4096) : Calls Try.prog 16 #[.pointer (some ⟨p, 0, none⟩), .int .i64 i, .int .i64 j] W (Refd p N A (delR l i j) W) := by
  unfold delR
  by_cases h1 : i < 0 ∨ j < i ∨ (l.length : Int) < j
  · rw [if_pos h1]
    exact refd_same h (Gives.tells (rdel_no h i j h1))
  · rw [if_neg h1]
    obtain ⟨k, rfl⟩ : ∃ k : Nat, i = (k : Int) := ⟨i.toNat, by omega⟩
    obtain ⟨m, rfl⟩ : ∃ m : Nat, j = (m : Int) := ⟨j.toNat, by omega⟩
    rw [Int.toNat_natCast, Int.toNat_natCast]
    exact rdel_run h k m (by omega) (by omega) hl
theorem rmov_any (h : Rf W p N A c l) (i j k : Int) (hl : l.length ≤ 4096) (hN : l.length ≤ N) : Calls Try.prog 18 #[.pointer (some ⟨p, 0, none⟩), .int .i64 i, .int .i64 j, .int .i64 k] W (Refd p N A (movR l i j k) W) := by
  unfold movR
  by_cases h1 : i < 0 ∨ j < i ∨ (l.length : Int) < j
  · rw [if_pos h1]
    exact refd_same h (Gives.tells (rmov_no h i j k h1))
  · rw [if_neg h1]
    obtain ⟨q, rfl⟩ : ∃ q : Nat, i = (q : Int) := ⟨i.toNat, by omega⟩
    obtain ⟨m, rfl⟩ : ∃ m : Nat, j = (m : Int) := ⟨j.toNat, by omega⟩
    by_cases h2 : k < 0 ∨ (l.length : Int) - ((m : Int) - (q : Int)) < k
    · rw [if_pos h2]
      exact refd_same h (Gives.tells (rmov_out h q m (m - q) k (by omega) (by omega) (by omega) hl (by omega)))
    · rw [if_neg h2]
      obtain ⟨t, rfl⟩ : ∃ t : Nat, k = (t : Int) := ⟨k.toNat, by omega⟩
      rw [Int.toNat_natCast, Int.toNat_natCast, Int.toNat_natCast]
      exact rmov_run h q m t (by omega) (by omega) (by omega) hl hN
end
end Go.Proofs.Ytkkfpbnlhgnchaa
