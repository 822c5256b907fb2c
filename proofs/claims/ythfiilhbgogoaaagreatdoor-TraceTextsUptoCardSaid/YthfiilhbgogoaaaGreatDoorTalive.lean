/-
  The document's examples: alive.
-/
import Derived.Test.YthfiilhbgogoaaaGreatDoorTread
namespace Go.Proofs.YthfiilhbgogoaaaGreatDoor
open Go.RowKit Go.Lib
set_option linter.unusedVariables false

def str (l : List UInt8) : ByteArray := strOfNums (l.map fun x => (x.toNat : Int))
theorem str_data (l : List UInt8) : (str l).data.toList = l := by
  simp only [str, strOfNums_data, List.map_map]
  have : ∀ x ∈ l, ((fun n : Int => UInt8.ofNat n.toNat) ∘ fun x : UInt8 => (x.toNat : Int)) x = x := by
    intro x _
    simp
  rw [List.map_congr_left this]
  simp
theorem str_inj {l m : List UInt8} (h : str l = str m) : l = m := by
  rw [← str_data l, ← str_data m, h]
theorem str_st (l : List UInt8) : str l = st l := by
  rw [← st_of (str l), str_data]
theorem conv_bts {W : World} {a : Option Addr} {l : List UInt8} (cap n : Nat) (h : Bts W a l) (hn : n = l.length) : (convert 35 9 (.slice a n cap)).run Tryz.prog W = .ok (.string (st l)) W := by
  subst hn
  by_cases hl : l = []
  · subst hl
    have e0 : st [] = ByteArray.empty := rfl
    rw [e0, List.length_nil]
    rcases a with _ | ⟨b, off, spot⟩
    · exact run_convert_bytes_nil W _ _ Tryz.underlying35 Tryz.underlying5 0 cap _ Tryz.underlying9
    · rw [run_convert_bytes_string W _ _ _ _ _ cap Tryz.underlying35 Tryz.underlying5 Tryz.underlying9]
      have h0 := run_loadCells_list (P := Tryz.prog) W ⟨b, off, spot⟩ [] (by simp)
      rw [run_bytesToString W _ 0 cap [] (by simpa using h0)]
      rfl
  · obtain ⟨b, off, rfl, hc⟩ := h hl
    have hr := run_convert_bytes_arg W _ _ Tryz.underlying35 Tryz.underlying5 b off l.length cap (l.map fun x => (x.toNat : Int)) (by simp) (fun i hi => by
      rw [hc i hi]
      simp [bval, hi]) _ Tryz.underlying9
    rw [hr, ← str_st]
    rfl
set_option maxHeartbeats 1000000 in
set_option maxRecDepth 100000 in
theorem talive_run (w : World) (hT : Tabs w) : Calls Tryz.prog 5 #[] w (Tells (.bool true) w) := by
  have HT : Aside (Tabs w) := hT
  have K1 : Hid (∀ W, Stp [] w [] W → Calls Tryz.prog 15 #[.string ⟨#[119, 114, 111, 116, 101, 32, 111, 107, 32, 48, 100, 48, 97, 32, 50]⟩] W fun e w' => Stp [] W [] w' ∧ ∃ a cap, e = .returned (.tuple #[evv 2 0 0 0 (.slice a 2 cap) 2 true, .int .i64 0]) ∧ Bts w' a [13, 10]) := Lib.hid fun W hs => (tread_run [119, 114, 111, 116, 101, 32, 111, 107, 32, 48, 100, 48, 97, 32, 50] (by simp) W (HT.out.stays hs)).mono fun e w' h => by
    unfold EffTo at h
    rw [rd_wrote] at h
    obtain ⟨h1, d, he, a, cap, rfl, h2, _⟩ := h
    exact ⟨h1, a, cap, he, h2⟩
  have K2 : Hid (∀ W, Stp [] w [] W → Calls Tryz.prog 15 #[.string ⟨#[114, 101, 97, 100, 32, 102, 97, 105, 108, 32, 48, 53]⟩] W fun e w' => Stp [] W [] w' ∧ e = .returned (.tuple #[evv 0 0 0 0 (.slice none 0 0) 0 false, .int .i64 8])) := Lib.hid fun W hs => (tread_run [114, 101, 97, 100, 32, 102, 97, 105, 108, 32, 48, 53] (by simp) W (HT.out.stays hs)).mono fun e w' h => by
    unfold EffTo at h
    rw [rd_read] at h
    exact h
  clear hT
  go_enter Tryz.func5, Tryz.ntmps5
  go_wp2_with fail
  refine (K1.out _ (Stp.refl _ _)).mono ?_
  rintro _ w1 ⟨h1, a, cap, rfl, hb⟩
  unfold evv
  have H1 : Aside (EAt (w1.alloc (.cells #[.int .i64 2, .int .u32 0, .int .u8 0, .int .u8 0, .slice a 2 cap, .int .i64 2, .bool true] 43)) w1.heap.size 2 0 0 0 (.slice a 2 cap) 2 true ∧ Bts (w1.alloc (.cells #[.int .i64 2, .int .u32 0, .int .u8 0, .int .u8 0, .slice a 2 cap, .int .i64 2, .bool true] 43)) a [13, 10] ∧ Stp [] w [] (w1.alloc (.cells #[.int .i64 2, .int .u32 0, .int .u8 0, .int .u8 0, .slice a 2 cap, .int .i64 2, .bool true] 43))) := ⟨heap_alloc_new _ _, hb.stays (Stp.alloc [] _ _), h1.trans (Stp.alloc [] _ _)⟩
  clear h1 hb K1
  go_wp2_with fail
  refine (K2.out _ H1.out.2.2).mono ?_
  rintro _ w2 ⟨h2, rfl⟩
  unfold evv
  have E2 := H1.out.1.other h2 (by simp)
  have cv := conv_bts cap 2 ((H1.out.2.1.stays h2).stays (Stp.alloc [] w2 (.cells #[.int .i64 0, .int .u32 0, .int .u8 0, .int .u8 0, .slice none 0 0, .int .i64 0, .bool false] 43))) rfl
  have hst : (st [13, 10]).toList = [13, 10] := st_toList _
  have hgl := E2.lt
  have hgn : ¬ w1.heap.size = w2.heap.size := by omega
  have c0 := E2.c0
  have c4 := E2.c4
  have c5 := E2.c5
  have c6 := E2.c6
  have HS : Aside (Stp [] w [] w2) := H1.out.2.2.trans h2
  clear E2 H1 h2 K2
  generalize w1.heap.size = ge at *
  go_wp2
  go_ret
  exact ⟨rfl, HS.out.trans (Stp.alloc [] _ _)⟩
end Go.Proofs.YthfiilhbgogoaaaGreatDoor
