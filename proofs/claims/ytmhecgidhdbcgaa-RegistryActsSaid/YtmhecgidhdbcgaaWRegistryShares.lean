/-
  RegistryShares, walked.
-/
import Derived.Test.YtmhecgidhdbcgaaAliveR
import Derived.Deep.RegionHeld
import Derived.Lib.Builder
import Derived.Deep.DeepCutAuto
import Derived.Deep.CutBlock
namespace Go.Proofs.Ytmhecgidhdbcgaa
open Go.RowKit Go.Lib Go.Maps
set_option linter.unusedVariables false

theorem min_any (a b c : Nat) (z : Int) (hz : z = (b : Int)) (h : c = min a b) : ∀ (w : World) (ts : Array TypeId) (t : TypeId), (Builtin.min_ ts t #[.int .i64 (a : Int), .int .i64 z]).run Try.prog w = .ok (.int .i64 (c : Int)) w := fun w ts t => by
  subst hz
  rw [run_min_int2]
  by_cases h1 : (b : Int) < (a : Int)
  · rw [if_pos h1, show c = b by omega]
  · rw [if_neg h1, show c = a by omega]
/-- Insert at the start of an arena without bytes. -/
theorem insert_first {W : World} {b g N : Nat} (h : Ar W b g N []) (p : Option Addr) (x : List UInt8) (n c : Nat) (hx : Bts W p x) (hd : x ≠ [] → ∀ ad, p = some ad → ad.block ≠ g) (hl : n = x.length) (hn : n ≤ N) :
    Calls Try.prog 21 #[.pointer (some ⟨b, 0, none⟩), .int .i64 0, .slice p n c] W fun e w' => e = .returned (.int .i64 0) ∧ Ar w' b g N x ∧ Stp [b, g] W [b, g] w' := by
  refine (insert_run h 0 p x n c hx hd hl (Nat.le_refl _) (by simpa using hn)).mono ?_
  rintro e w' ⟨h1, h2, h3⟩
  exact ⟨h1, by simpa using h2, h3⟩
theorem ptr_same (b : Nat) (w : World) : (binOp .neq 29 (.pointer (some ⟨b, 0, none⟩)) (.pointer (some ⟨b, 0, none⟩))).run Try.prog w = .ok (.bool false) w := by
  obtain ⟨j, hj⟩ : ∃ j, Try.prog.info? 62 = some j := by
    have : (Try.prog.info? 62).isSome = true := by kernel_rfl
    exact Option.isSome_iff_exists.1 this
  exact Go.Lib.run_neq_ptr_same w ⟨b, 0, none⟩ Try.underlying29 hj
theorem conv_lay {W : World} {k n : Nat} {x : List UInt8} (h : Blk W k (lay (List.replicate 50 0) 0 (x.take 50))) (hn : x.length = n) (h50 : n ≤ 50) : (convert 47 9 (.slice (some ⟨k, 0, none⟩) n 50)).run Try.prog W = .ok (.string (str x)) W := by
  have e : lay (List.replicate 50 0) 0 (x.take 50) = x ++ List.replicate (50 - n) 0 := by
    have e1 : x.take 50 = x := List.take_of_length_le (by omega)
    rw [e1]
    unfold lay
    simp only [List.take_zero, List.nil_append, Nat.zero_add, List.drop_replicate, hn]
  rw [e] at h
  exact conv_bts 50 n h.bts.head hn.symm
theorem step_out {w W W' : World} {F : List Nat} {k j : Nat} (h : Stp [] w F W) (hs : Stp [k, j] W [] W') (hk : w.heap.size ≤ k ∧ w.heap.size ≤ j) : Stp [] w [] W' :=
  ⟨hs.os.trans h.os, hs.tape.trans h.tape, hs.output.trans h.output, Nat.le_trans h.size hs.size, fun i hi hF => (hs.block i (Nat.lt_of_lt_of_le hi h.size) (fun g => by simp at g; omega)).trans (h.block i hi hF), fun _ h => by cases h⟩
theorem upd_two {x y : Ent} {l : List UInt8} (h : y.b ≠ x.b) : upd [x, y] x.b l = [{ x with l := l }, y] := by simp [upd, h]
theorem upd_two' {x y : Ent} {l : List UInt8} (h : x.b ≠ y.b) : upd [x, y] y.b l = [x, { y with l := l }] := by simp [upd, h]

set_option maxHeartbeats 4000000 in
set_option maxRecDepth 100000 in
theorem shares_at (a0 a1 : Option Addr) (cap0 cap1 L0 L1 n0 n1 : Nat) (x0 x1 : List UInt8) (w : World) (h0 : Bts w a0 x0) (h1 : Bts w a1 x1) (e0 : x0.length = n0) (e1 : x1.length = n1) (q0 : n0 ≤ 50) (q1 : n1 ≤ 50) (k0 : n0 ≤ cap0) (k1 : n1 ≤ cap1)
    (hm0 : ∀ (w : World) (ts : Array TypeId) (t : TypeId), (Builtin.min_ ts t #[.int .i64 (L0 : Int), .int .i64 50]).run Try.prog w = .ok (.int .i64 (n0 : Int)) w)
    (hm1 : ∀ (w : World) (ts : Array TypeId) (t : TypeId), (Builtin.min_ ts t #[.int .i64 (L1 : Int), .int .i64 50]).run Try.prog w = .ok (.int .i64 (n1 : Int)) w) :
    Calls Try.prog 6 #[.slice a0 L0 cap0, .slice a1 L1 cap1] w (Truth w) := by
  have s0 := cut_h a0 L0 cap0 n0 k0
  have s1 := cut_h a1 L1 cap1 n1 k1
  have HA := Lib.hid (And.intro h0 (And.intro h1 (And.intro e0 e1)))
  clear h0 h1 e0 e1
  go_enter Try.func6, Try.ntmps6
  go_wp2_with fail
  go_region
  clear s0 s1 hm0 hm1
  go_wp2_with fail
  refine (newr_run _).mono ?_
  rintro _ w1 ⟨r, F1, rfl, hR1, st1⟩
  have H1 := Lib.hid (And.intro hR1 ((Stp.drew [] w).trans st1))
  clear hR1 st1
  go_wp2_with fail
  refine (aliver_run _).mono ?_
  rintro _ w2 ⟨rfl, st2⟩
  obtain ⟨⟨m, v, D, X⟩, st⟩ := H1.out
  have K2 := Lib.hid (make_at (X.stays st2) ⟨#[120]⟩ (by decide) 50 50 rfl (by simp [refuse]) (by omega) (by omega))
  have H2 := Lib.hid (st.trans (st2.widen (F := F1) (G := F1) (fun k h => .inl h)))
  clear X st H1 st2
  go_wp2_with fail
  refine K2.out.mono ?_
  rintro _ w3 ⟨b, g, F3, rfl, ⟨m3, v3, D3, X3⟩, st3, hb, hg⟩
  have K3 := Lib.hid (make_at X3 ⟨#[121]⟩ (by decide) 50 50 rfl (by simp [refuse]) (by omega) (by omega))
  have H3 := Lib.hid (And.intro (H2.out.trans st3) (And.intro (Nat.le_trans H2.out.size hb) (Nat.le_trans H2.out.size hg)))
  have hbl := (X3.ars ⟨⟨#[120]⟩, b, g, 50, []⟩ (by simp)).lt
  clear X3 st3 H2 K2 hb hg
  go_wp2_with fail
  refine K3.out.mono ?_
  rintro _ w4 ⟨b', g', F4, rfl, ⟨m4, v4, D4, X4⟩, st4, hb, hg⟩
  have hne : b' ≠ b := by omega
  have X4' : Rx w4 F4 r m4 v4 D4 [⟨⟨#[120]⟩, b, g, 50, []⟩, ⟨⟨#[121]⟩, b', g', 50, []⟩] := X4
  have S4 : Stp [] w F4 w4 := H3.out.1.trans st4
  have hwg : w.heap.size ≤ g := H3.out.2.2
  have hwg' : w.heap.size ≤ g' := Nat.le_trans H3.out.1.size hg
  have K4 := Lib.hid (insert_first (X4'.ars ⟨⟨#[120]⟩, b, g, 50, []⟩ (by simp)) a0 x0 n0 cap0 (HA.out.1.stays S4) (fun hn => HA.out.1.apart hwg hn) HA.out.2.2.1.symm (by simpa using q0))
  have H4 := Lib.hid (And.intro X4' (And.intro S4 (And.intro hwg hwg')))
  clear X4 X4' S4 hwg hwg' st4 H3 K3 hb hg hbl
  go_wp2_with fail
  refine K4.out.mono ?_
  rintro _ w5 ⟨rfl, ha5, st5⟩
  obtain ⟨X4, S4, hwg, hwg'⟩ := H4.out
  have X5 := X4.act (x := ⟨⟨#[120]⟩, b, g, 50, []⟩) (by simp) ha5 st5
  rw [upd_two hne] at X5
  have S5 : Stp [] w F4 w5 := S4.trans (st5.remake (fun k hk => by
    have := X4.fa ⟨⟨#[120]⟩, b, g, 50, []⟩ (by simp)
    simp at hk
    rcases hk with e | e
    · rw [e]; exact this.1
    · rw [e]; exact this.2) (fun k hk => .inl hk))
  have K5 := Lib.hid (insert_first (X5.ars ⟨⟨#[121]⟩, b', g', 50, []⟩ (by simp)) a1 x1 n1 cap1 (HA.out.2.1.stays S5) (fun hn => HA.out.2.1.apart hwg' hn) HA.out.2.2.2.symm (by simpa using q1))
  have H5 := Lib.hid (And.intro X5 (And.intro S5 (And.intro hwg hwg')))
  clear X4 S4 hwg hwg' X5 S5 st5 ha5 K4 H4
  go_wp2_with fail
  refine K5.out.mono ?_
  rintro _ w6 ⟨rfl, ha6, st6⟩
  obtain ⟨X5, S5, hwg, hwg'⟩ := H5.out
  have X6 := X5.act (x := ⟨⟨#[121]⟩, b', g', 50, []⟩) (by simp) ha6 st6
  rw [upd_two' (show (⟨⟨#[120]⟩, b, g, 50, x0⟩ : Ent).b ≠ b' from hne.symm)] at X6
  have S6 : Stp [] w F4 w6 := S5.trans (st6.remake (fun k hk => by
    have := X5.fa ⟨⟨#[121]⟩, b', g', 50, []⟩ (by simp)
    simp at hk
    rcases hk with e | e
    · rw [e]; exact this.1
    · rw [e]; exact this.2) (fun k hk => .inl hk))
  have K6 := Lib.hid (get_yes X6 (x := ⟨⟨#[120]⟩, b, g, 50, x0⟩) (by simp))
  have K7 := Lib.hid (get_yes X6 (x := ⟨⟨#[121]⟩, b', g', 50, x1⟩) (by simp))
  have H6 := Lib.hid (And.intro X6 (And.intro S6 (And.intro hwg hwg')))
  clear X5 S5 hwg hwg' X6 S6 st6 ha6 K5 H5
  go_wp2_with fail
  refine K6.out.mono ?_
  rintro _ w6 ⟨rfl, rfl⟩
  clear K6
  go_wp2_with fail
  refine K7.out.mono ?_
  rintro _ w6 ⟨rfl, rfl⟩
  clear K7
  have hp1 := ptr_same b
  have hp2 := ptr_same b'
  obtain ⟨o, ho, hmk⟩ := make_obj 50 (by omega)
  have hmk' : ∀ (w : World), (Instr.makeSlice 47 (.int .i64 50) (.int .i64 50)).run Try.prog w = .ok (.slice (some ⟨w.heap.size, 0, none⟩) 50 50) (w.alloc o) := fun w => hmk w .i64 .i64
  clear hmk
  have hZ : Aside (Rx ((w6.alloc o).alloc o).drew F4 r m4 v4 D4 [⟨⟨#[120]⟩, b, g, 50, x0⟩, ⟨⟨#[121]⟩, b', g', 50, x1⟩] ∧ Stp [] w F4 ((w6.alloc o).alloc o).drew ∧ (Blk ((w6.alloc o).alloc o).drew w6.heap.size (List.replicate 50 0) ∧ Blk ((w6.alloc o).alloc o).drew (w6.heap.size + 1) (List.replicate 50 0)) ∧ w.heap.size ≤ w6.heap.size) := by
    have st : Stp [] w6 [] ((w6.alloc o).alloc o).drew := ((Stp.alloc [] w6 o).trans (Stp.alloc [] _ o)).trans (Stp.drew [] _)
    refine ⟨H6.out.1.stays st, H6.out.2.1.trans (st.widen (fun k h => .inl h)), ⟨?_, ?_⟩, H6.out.2.1.size⟩
    · exact (new_blk w6 ho).other ((Stp.alloc [] _ o).trans (Stp.drew [] _)) (fun h => by cases h)
    · have := (new_blk (w6.alloc o) ho).other (Stp.drew [] _) (fun h => by cases h)
      rw [World.size_alloc] at this
      exact this
  have hL : Aside ((b < w6.heap.size ∧ g < w6.heap.size) ∧ b' < w6.heap.size ∧ g' < w6.heap.size) :=
    ⟨⟨(H6.out.1.ars ⟨⟨#[120]⟩, b, g, 50, x0⟩ (by simp)).lt, (H6.out.1.ars ⟨⟨#[120]⟩, b, g, 50, x0⟩ (by simp)).row.lt⟩, (H6.out.1.ars ⟨⟨#[121]⟩, b', g', 50, x1⟩ (by simp)).lt, (H6.out.1.ars ⟨⟨#[121]⟩, b', g', 50, x1⟩ (by simp)).row.lt⟩
  have HZ := hZ
  have HL := hL
  clear H6 ho hZ hL
  go_upto_region 13 with fail
  go_cut [14, 15] (fun s14 s15 wx => ∃ ks kt : Nat, s14 = .slice (some ⟨ks, 0, none⟩) 50 50 ∧ s15 = .slice (some ⟨kt, 0, none⟩) 50 50 ∧ wx = ((w6.alloc o).alloc o).drew ∧ ((ks = w6.heap.size ∧ kt = w6.heap.size + 1) ∨ (ks = w6.heap.size + 1 ∧ kt = w6.heap.size)))
  case first =>
    go_region
    all_goals (go_wp2_with fail; go_meet; first | exact ⟨_, _, rfl, rfl, rfl, .inl ⟨rfl, rfl⟩⟩ | exact ⟨_, _, rfl, rfl, rfl, .inr ⟨rfl, rfl⟩⟩)
  case rest =>
    clear hmk' hp1 hp2
    obtain ⟨ks, kt, rfl, rfl, rfl, hk⟩ := hcut
    have hB : Blk ((w6.alloc o).alloc o).drew ks (List.replicate 50 0) ∧ Blk ((w6.alloc o).alloc o).drew kt (List.replicate 50 0) := by
      rcases hk with ⟨rfl, rfl⟩ | ⟨rfl, rfl⟩
      · exact HZ.out.2.2.1
      · exact ⟨HZ.out.2.2.1.2, HZ.out.2.2.1.1⟩
    have hst : ks ≠ kt := by omega
    have hs2 : w6.heap.size ≤ ks := by omega
    have ht2 : w6.heap.size ≤ kt := by omega
    generalize ((w6.alloc o).alloc o).drew = wz at *
    obtain ⟨hBs, hBt⟩ := hB
    have X7 : Ar wz.drew b g 50 x0 := (HZ.out.1.ars ⟨⟨#[120]⟩, b, g, 50, x0⟩ (by simp)).stays (Stp.drew [] wz)
    have Y7 : Ar wz.drew b' g' 50 x1 := (HZ.out.1.ars ⟨⟨#[121]⟩, b', g', 50, x1⟩ (by simp)).stays (Stp.drew [] wz)
    have hlow := HL.out
    have K8 := Lib.hid (copy_run X7 ks 50 50 (List.replicate 50 0) (hBs.other (Stp.drew [] wz) (fun h => by cases h)) List.length_replicate (by omega))
    rw [show min x0.length 50 = n0 by have := HA.out.2.2.1; omega] at K8
    have s2 := cut_h (some ⟨ks, 0, none⟩) 50 50 n0 q0
    have s3 := cut_h (some ⟨kt, 0, none⟩) 50 50 n1 q1
    have HB := Lib.hid (And.intro Y7 (hBt.other (Stp.drew [] wz) (fun h => by cases h)))
    have hbt : Bts wz.drew a0 x0 ∧ Bts wz.drew a1 x1 := ⟨HA.out.1.stays (HZ.out.2.1.trans (Stp.drew _ _)), HA.out.2.1.stays (HZ.out.2.1.trans (Stp.drew _ _))⟩
    have HT := Lib.hid hbt
    have hn1 : ks ≠ b' ∧ ks ≠ g' ∧ kt ≠ g' := by omega
    have hwk : w.heap.size ≤ ks ∧ w.heap.size ≤ kt := by have := HZ.out.2.2.2; omega
    obtain ⟨tx, htx⟩ : ∃ tx, str x0 = tx := ⟨_, rfl⟩
    obtain ⟨ty, hty⟩ : ∃ ty, str x1 = ty := ⟨_, rfl⟩
    have hS0 : Stp [] w F4 wz.drew := HZ.out.2.1.trans (Stp.drew _ _)
    have cv3 : ∀ W, Stp [ks, kt] wz.drew [] W → (convert 47 9 (.slice a0 n0 cap0)).run Try.prog W = .ok (.string tx) W := fun W hs => by
      rw [← htx]
      exact conv_bts cap0 n0 (HA.out.1.stays (step_out hS0 hs hwk)) HA.out.2.2.1.symm
    have cv4 : ∀ W, Stp [ks, kt] wz.drew [] W → (convert 47 9 (.slice a1 n1 cap1)).run Try.prog W = .ok (.string ty) W := fun W hs => by
      rw [← hty]
      exact conv_bts cap1 n1 (HA.out.2.1.stays (step_out hS0 hs hwk)) HA.out.2.2.2.symm
    have HN := Lib.hid (And.intro hn1 (And.intro hwk (And.intro hlow (And.intro hst (And.intro q0 (And.intro q1 (And.intro htx (And.intro hty hS0))))))))
    have hcur : Stp [ks, kt] wz.drew [] wz.drew := (Stp.refl [ks, kt] _).none
    clear X7 Y7 hBs hBt hbt hn1 hwk hlow hst hs2 ht2 hk hne k0 k1 q0 q1 HT HL htx hty hS0
    go_wp2_with fail
    go_region_held (fun W => Stp [ks, kt] wz.drew [] W) (first | exact hcur | assumption) (first
      | (go_at_call_of 25 (Value.pointer (some ⟨b, 0, none⟩))
         refine K8.out.mono ?_
         rintro _ w8 ⟨rfl, hB8, st8⟩
         have K9 := Lib.hid (copy_run (HB.out.1.other st8 (by have := HN.out.1; simp; omega) (by have := HN.out.1; simp; omega)) kt 50 50 (List.replicate 50 0) (HB.out.2.other st8 (by have := HN.out.2.2.2.1; simp; omega)) List.length_replicate HN.out.1.2.2)
         rw [show min x1.length 50 = n1 by have := HA.out.2.2.2; have := HN.out.2.2.2.2.2.1; omega] at K9
         replace hcur : Stp [ks, kt] wz.drew [] w8 := st8.remake (fun k hk => by simp at hk; simp [hk]) (fun k h => by cases h)
         have H8 := Lib.hid (And.intro hB8 st8)
         clear hB8 st8 K8)
      | (go_at_call_of 25 (Value.pointer (some ⟨b', 0, none⟩))
         refine K9.out.mono ?_
         rintro _ w9 ⟨rfl, hB9, st9⟩
         replace hcur : Stp [ks, kt] wz.drew [] w9 := (H8.out.2.more (fun k hk => by simp at hk; simp [hk])).trans (st9.remake (fun k hk => by simp at hk; simp [hk]) (fun k h => by cases h))
         have hb8 : Blk w9 ks (lay (List.replicate 50 0) 0 (x0.take 50)) := H8.out.1.other st9 (by have := HN.out.2.2.2.1; simp; omega)
         have cv1 : (convert 47 9 (.slice (some ⟨ks, 0, none⟩) n0 50)).run Try.prog w9 = .ok (.string tx) w9 := by rw [← HN.out.2.2.2.2.2.2.1]; exact conv_lay hb8 HA.out.2.2.1 HN.out.2.2.2.2.1
         have cv2 : (convert 47 9 (.slice (some ⟨kt, 0, none⟩) n1 50)).run Try.prog w9 = .ok (.string ty) w9 := by rw [← HN.out.2.2.2.2.2.2.2.1]; exact conv_lay hB9 HA.out.2.2.2 HN.out.2.2.2.2.2.1
         have H9 := Lib.hid (step_out HN.out.2.2.2.2.2.2.2.2 hcur HN.out.2.1)
         clear hb8 hB9 st9 K9))
    all_goals
      go_wp2
      go_ret
      exact ⟨rfl, H9.out.under⟩
theorem shares_walk (a0 : Option Addr) (cap0 : Nat) (l0 : List UInt8) (a1 : Option Addr) (cap1 : Nat) (l1 : List UInt8) (w : World) (h0 : Bts w a0 l0) (c0 : l0.length ≤ cap0) (m0 : cap0 ≤ maxLen) (h1 : Bts w a1 l1) (c1 : l1.length ≤ cap1) (m1 : cap1 ≤ maxLen) :
    Calls Try.prog 6 #[.slice a0 l0.length cap0, .slice a1 l1.length cap1] w (Truth w) :=
  shares_at a0 a1 cap0 cap1 l0.length l1.length (min l0.length 50) (min l1.length 50) (l0.take (min l0.length 50)) (l1.take (min l1.length 50)) w
    (Bts.head (M' := l0.drop (min l0.length 50)) (by rw [List.take_append_drop]; exact h0)) (Bts.head (M' := l1.drop (min l1.length 50)) (by rw [List.take_append_drop]; exact h1))
    (by rw [List.length_take]; omega) (by rw [List.length_take]; omega) (by omega) (by omega) (by omega) (by omega) (min_any _ 50 _ 50 rfl rfl) (min_any _ 50 _ 50 rfl rfl)
end Go.Proofs.Ytmhecgidhdbcgaa
