/-
  trace.Read.
-/
import Derived.Test.YthfiilhbgogoaaaGreatDoorEff
import Derived.Deep.WholeRow
namespace Go.Proofs.YthfiilhbgogoaaaGreatDoor
open Go.RowKit Go.Lib
set_option linter.unusedVariables false

theorem closures_len (X : List (Nat × Nat)) : (closures X).length = 2 * X.length := by
  induction X with
  | nil => rfl
  | cons x X ih =>
    have e : closures (x :: X) = wF x.1 x.2 :: rF x.1 x.2 :: closures X := rfl
    rw [e]
    simp [ih]
    omega
theorem closures_one : ∀ (X : List (Nat × Nat)), ∀ v ∈ closures X, v.oneCell' = true
  | [], v, h => by simp [closures] at h
  | x :: X, v, h => by
    have e : closures (x :: X) = wF x.1 x.2 :: rF x.1 x.2 :: closures X := rfl
    rw [e] at h
    simp at h
    rcases h with rfl | rfl | h
    · rfl
    · rfl
    · exact closures_one X v h
theorem store_all (w : World) (X : List (Nat × Nat)) (hX : X.length = 7) : (storeCells ⟨w.heap.size, 0, none⟩ (closures X)).run Tryz.prog (w.alloc (.cells #[.nilFunc, .nilFunc, .nilFunc, .nilFunc, .nilFunc, .nilFunc, .nilFunc, .nilFunc, .nilFunc, .nilFunc, .nilFunc, .nilFunc, .nilFunc, .nilFunc] 52)) = .ok () (w.alloc (.cells (closures X).toArray 52)) := by
  have hl : (closures X).toArray.size = 14 := by simp [closures_len, hX]
  have := run_storeCells_new (P := Tryz.prog) w 52 #[.nilFunc, .nilFunc, .nilFunc, .nilFunc, .nilFunc, .nilFunc, .nilFunc, .nilFunc, .nilFunc, .nilFunc, .nilFunc, .nilFunc, .nilFunc, .nilFunc] (closures X).toArray (by rw [hl]; exact forms_info) (by rw [hl]; rfl) (by simpa using closures_one X)
  simpa using this
set_option maxHeartbeats 1000000 in
set_option maxRecDepth 100000 in
theorem tread_run (s : List UInt8) (hs : s.length ≤ 100000) (w : World) (hT : Tabs w) : Calls Tryz.prog 15 #[.string (st s)] w (EffTo (rdAll s) w) := by
  have KA := Lib.hid all_run
  have HT : Aside (Tabs w) := hT
  have KE : Hid (∀ X ga W, Stp [] w [] W → AllAt W X → W.heap[ga]? = some (.cells (closures X).toArray 52 (0, 0)) → Calls Tryz.prog 22 #[.pointer (some ⟨ga, 0, none⟩), .string (st s)] W (EffTo (rdAll s) W)) := Lib.hid fun X ga W hs2 hx hg => eff_run X ga s hs W (HT.out.stays hs2) hx hg
  clear hT
  go_enter Tryz.func15, Tryz.ntmps15
  go_wp2_with fail
  refine (KA.out _).mono ?_
  rintro _ w1 ⟨X, rfl, h1, h2⟩
  have hsc := store_all w1 X h1.1
  have hcl : (closures X).length = 14 := by rw [closures_len, h1.1]
  have hS1 : Stp [] w [] w1 := (Stp.alloc [] w _).trans h2
  have R00 : EAt (w.alloc (.cells #[.int .i64 0, .int .u32 0, .int .u8 0, .int .u8 0, .slice none 0 0, .int .i64 0, .bool false] 43)) w.heap.size 0 0 0 0 (.slice none 0 0) 0 false := heap_alloc_new _ _
  have H1 : Aside (AllAt (w1.alloc (.cells (closures X).toArray 52)) X ∧ (w1.alloc (.cells (closures X).toArray 52)).heap[w1.heap.size]? = some (.cells (closures X).toArray 52 (0, 0)) ∧ EAt (w1.alloc (.cells (closures X).toArray 52)) w.heap.size 0 0 0 0 (.slice none 0 0) 0 false ∧ Stp [] w [] (w1.alloc (.cells (closures X).toArray 52))) :=
    ⟨h1.stays (Stp.alloc [] _ _), heap_alloc_new _ _, (R00.other h2 (by simp)).other (Stp.alloc [] _ _) (by simp), hS1.trans (Stp.alloc [] _ _)⟩
  clear h1 h2 hS1 R00 KA
  generalize w1.alloc (.cells (closures X).toArray 52) = w2 at *
  go_wp2_with fail
  refine (KE.out X _ _ H1.out.2.2.2 H1.out.1 H1.out.2.1).mono ?_
  rintro e0 w3 ⟨h3, hm⟩
  have R0 := H1.out.2.2.1.other h3 (by simp)
  have HG : Aside (EAt w3 w.heap.size 0 0 0 0 (.slice none 0 0) 0 false ∧ Stp [] w [] w3 ∧ w.heap.size < w2.heap.size) := ⟨R0, H1.out.2.2.2.trans h3, H1.out.2.2.1.lt⟩
  have c0 := R0.c0
  have c1 := R0.c1
  have c2 := R0.c2
  have c3 := R0.c3
  have c4 := R0.c4
  have c5 := R0.c5
  have c6 := R0.c6
  have z0 := R0.fz 0
  have z1 := R0.fz 1
  have z2 := R0.fz 2
  have z3 := R0.fz 3
  have z4 := R0.fz 4
  have z5 := R0.fz 5
  have z6 := R0.fz 6
  clear R0 h3 H1 KE
  cases hr : rdAll s with
  | none =>
    rw [hr] at hm
    subst hm
    have HRR : Aside (rdAll s = none) := hr
    clear hr
    unfold evv
    go_wp2
    refine bodyPost_ret (res_eff2 rfl _ rfl (HG.out.1.set7 0 0 0 0 (.slice none 0 0) 0 false)) rfl ?_
    exact ⟨(HG.out.2.1.fresh (stp7 _ _ _ _ _ _ _ _ _) (by simp)).none, by rw [HRR.out]; rfl⟩
  | some ky =>
    obtain ⟨k, y⟩ := ky
    rw [hr] at hm
    obtain ⟨d, rfl, a, cap, rfl, hb1, hb2, hb3, hb4⟩ := hm
    have HB : Aside (Bts w3 a y.d ∧ y.d.length ≤ cap ∧ (a = none → cap = 0) ∧ ∀ ad, a = some ad → w.heap.size < ad.block) := ⟨hb1, hb2, hb3, fun ad e => by have h1 := hb4 ad e; have h2 := HG.out.2.2; omega⟩
    have HRR : Aside (rdAll s = some (k, y)) := hr
    clear hr hb1 hb2 hb3 hb4
    unfold evv
    go_wp2
    refine bodyPost_ret (res_eff2 rfl _ rfl (HG.out.1.set7 (k : Int) y.f y.m y.t (.slice a y.d.length cap) (y.n : Int) y.ok)) rfl ?_
    refine ⟨(HG.out.2.1.fresh (stp7 _ _ _ _ _ _ _ _ _) (by simp)).none, ?_⟩
    rw [HRR.out]
    exact ⟨_, rfl, a, cap, rfl, HB.out.1.other (stp7 _ _ _ _ _ _ _ _ _) (fun _ ad e => by have := HB.out.2.2.2 ad e; simp; omega), HB.out.2.1, HB.out.2.2.1, fun ad e => Nat.le_of_lt (HB.out.2.2.2 ad e)⟩
theorem n2 : num [50] = some 2 := by
  have h : dig 10 2 = [50] := by rw [dig_lt (by omega)]; rfl
  unfold num
  rw [if_neg (by decide), show Lib.atoi [50] = some 2 from rfl]
  simp [h]
theorem n05 : num [48, 53] = none := by
  have h : dig 10 5 = [53] := by rw [dig_lt (by omega)]; rfl
  unfold num
  rw [if_neg (by decide), show Lib.atoi [48, 53] = some 5 from rfl]
  simp [h]
/-- The document's examples. -/
theorem rd_wrote : rdAll [119, 114, 111, 116, 101, 32, 111, 107, 32, 48, 100, 48, 97, 32, 50] = some (2, ⟨0, 0, 0, [13, 10], 2, true⟩) := by
  have a0 : rd1 [103, 111, 116] [.ok, .attrs] [119, 114, 111, 116, 101, 32, 111, 107, 32, 48, 100, 48, 97, 32, 50] = none := by kernel_rfl
  have a1 : rd1 [119, 97, 115] [.ok, .attrs] [119, 114, 111, 116, 101, 32, 111, 107, 32, 48, 100, 48, 97, 32, 50] = none := by kernel_rfl
  have a2 : rd1 [119, 114, 111, 116, 101] [.ok, .data, .num] [119, 114, 111, 116, 101, 32, 111, 107, 32, 48, 100, 48, 97, 32, 50] = ((num [50]).map fun n => ⟨0, 0, 0, [13, 10], n, true⟩) := by
    have b1 : rd1 [119, 114, 111, 116, 101] [.ok, .data, .num] [119, 114, 111, 116, 101, 32, 111, 107, 32, 48, 100, 48, 97, 32, 50] = tks [.num] [[50]] ⟨0, 0, 0, [13, 10], 0, true⟩ := by kernel_rfl
    rw [b1]
    simp only [tks, tk]
    cases num [50] <;> rfl
  rw [n2] at a2
  unfold rdAll FL
  simp only [rdL, a0, a1, a2]
  rfl
theorem rd_read : rdAll [114, 101, 97, 100, 32, 102, 97, 105, 108, 32, 48, 53] = none := by
  have a0 : rd1 [103, 111, 116] [.ok, .attrs] [114, 101, 97, 100, 32, 102, 97, 105, 108, 32, 48, 53] = none := by kernel_rfl
  have a1 : rd1 [119, 97, 115] [.ok, .attrs] [114, 101, 97, 100, 32, 102, 97, 105, 108, 32, 48, 53] = none := by kernel_rfl
  have a2 : rd1 [119, 114, 111, 116, 101] [.ok, .data, .num] [114, 101, 97, 100, 32, 102, 97, 105, 108, 32, 48, 53] = none := by kernel_rfl
  have a3 : rd1 [114, 101, 97, 100] [.ok, .num] [114, 101, 97, 100, 32, 102, 97, 105, 108, 32, 48, 53] = none := by
    have b1 : rd1 [114, 101, 97, 100] [.ok, .num] [114, 101, 97, 100, 32, 102, 97, 105, 108, 32, 48, 53] = tks [.num] [[48, 53]] ⟨0, 0, 0, [], 0, false⟩ := by kernel_rfl
    rw [b1]
    simp only [tks, tk, n05]
    rfl
  have a4 : rd1 [115, 105, 103, 110, 97, 108] [.num] [114, 101, 97, 100, 32, 102, 97, 105, 108, 32, 48, 53] = none := by kernel_rfl
  have a5 : rd1 [101, 110, 100] [] [114, 101, 97, 100, 32, 102, 97, 105, 108, 32, 48, 53] = none := by kernel_rfl
  have a6 : rd1 [104, 105, 115, 116, 111, 114, 121] [] [114, 101, 97, 100, 32, 102, 97, 105, 108, 32, 48, 53] = none := by kernel_rfl
  unfold rdAll FL
  simp only [rdL, a0, a1, a2, a3, a4, a5, a6]
end Go.Proofs.YthfiilhbgogoaaaGreatDoor
