/-
  The document's Read of a line, way by way.
-/
import Derived.Test.YthfiilhbgogoaaaGreatDoorRefRb
import Derived.Test.YthfiilhbgogoaaaGreatDoorRefBy
import Derived.Test.YthfiilhbgogoaaaGreatDoorRefH
import Derived.Deep.DeepCutAuto
import Derived.Deep.CutBlock
namespace Go.Proofs.YthfiilhbgogoaaaGreatDoor
open Go.RowKit Go.Lib
set_option linter.unusedVariables false
set_option linter.unusedSimpArgs false

/-- The document's Read: what it answers, the effect, and none: three blocks; and the pieces. -/
structure T3 (w W : World) (g0 g1 g2 gp : Nat) (L : List (List UInt8)) (k : Int) (f m t : Nat) (d : Value) (n : Int) (ok : Bool) : Prop where
  r : EAt W g0 0 0 0 0 (.slice none 0 0) 0 false
  e : EAt W g1 k f m t d n ok
  z : EAt W g2 0 0 0 0 (.slice none 0 0) 0 false
  stp : Stp [] w [] W
  p : ∀ j x, L[j]? = some x → W.cell? ⟨gp, j, none⟩ = some (.string (st x))
  lo : w.heap.size ≤ g0 ∧ g0 < gp ∧ gp < g1 ∧ g1 < g2 ∧ gp < W.heap.size
section
variable {w W W' : World} {g0 g1 g2 gp : Nat} {L : List (List UInt8)} {k : Int} {f m t : Nat} {d : Value} {n : Int} {ok : Bool} {k' : Int} {f' m' t' : Nat} {d' : Value} {n' : Int} {ok' : Bool}
theorem T3.act (h : T3 w W g0 g1 g2 gp L k f m t d n ok) (hs : Stp [g1] W [g1] W') (he : EAt W' g1 k' f' m' t' d' n' ok') : T3 w W' g0 g1 g2 gp L k' f' m' t' d' n' ok' := by
  have hl := h.lo
  exact ⟨h.r.other hs (by simp; omega), he, h.z.other hs (by simp; omega), (h.stp.fresh hs (fun i hi => by simp at hi; omega)).none,
    fun j x hx => (hs.cell (a := ⟨gp, j, none⟩) hl.2.2.2.2 (by simp; omega)).trans (h.p j x hx), hl.1, hl.2.1, hl.2.2.1, hl.2.2.2.1, Nat.lt_of_lt_of_le hl.2.2.2.2 hs.size⟩
theorem T3.stays {F : List Nat} (h : T3 w W g0 g1 g2 gp L k f m t d n ok) (hs : Stp [] W F W') : T3 w W' g0 g1 g2 gp L k f m t d n ok := by
  have hl := h.lo
  exact ⟨h.r.other hs (by simp), h.e.other hs (by simp), h.z.other hs (by simp), h.stp.trans hs.none,
    fun j x hx => (hs.cell (a := ⟨gp, j, none⟩) hl.2.2.2.2 (by simp)).trans (h.p j x hx), hl.1, hl.2.1, hl.2.2.1, hl.2.2.2.1, Nat.lt_of_lt_of_le hl.2.2.2.2 hs.size⟩
end

set_option maxHeartbeats 2000000 in
set_option maxRecDepth 100000 in
theorem rd_end (s : List UInt8) (hs : s.length ≤ 2000) (w : World) (h5 : s = [101, 110, 100]) : Calls Tryz.prog 24 #[.string (st s)] w (EffTo (rf s) w) := by
  have HRF : Hid (rf s = some (5, E0)) := Lib.hid (by rw [h5]; rfl)
  have q1 : ((st s).toList == [101, 110, 100]) = true := by rw [st_toList]; rw [h5]; rfl
  have q2 : ((st s).toList == [104, 105, 115, 116, 111, 114, 121]) = false := by rw [st_toList]; rw [h5]; rfl
  clear h5
  have KC := Lib.hid (fun W => rcut_run s 32 (by omega) W)
  have cv : ((32 : UInt8).toNat : Int) = 32 := rfl
  rw [cv] at KC
  clear cv
  go_enter Tryz.func24, Tryz.ntmps24
  have H0 : Aside (EAt (w.alloc (.cells #[.int .i64 0, .int .u32 0, .int .u8 0, .int .u8 0, .slice none 0 0, .int .i64 0, .bool false] 43)) w.heap.size 0 0 0 0 (.slice none 0 0) 0 false ∧ Stp [] w [] (w.alloc (.cells #[.int .i64 0, .int .u32 0, .int .u8 0, .int .u8 0, .slice none 0 0, .int .i64 0, .bool false] 43)) ∧ (w.alloc (.cells #[.int .i64 0, .int .u32 0, .int .u8 0, .int .u8 0, .slice none 0 0, .int .i64 0, .bool false] 43)).heap.size = w.heap.size + 1) := ⟨heap_alloc_new w _, Stp.alloc [] w _, by simp⟩
  obtain ⟨g0, hg0⟩ : ∃ g0, g0 = w.heap.size := ⟨_, rfl⟩
  rw [← hg0] at H0
  go_upto_region 1 with fail
  rw [← hg0]
  have HG := Lib.hid hg0
  generalize w.alloc (.cells #[.int .i64 0, .int .u32 0, .int .u8 0, .int .u8 0, .slice none 0 0, .int .i64 0, .bool false] 43) = w0 at *
  clear hg0
  go_wp2_with fail
  refine (KC.out _).mono ?_
  rintro _ w1 ⟨v, rfl, ho, s1⟩
  obtain ⟨a, cap, rfl, hno, hpc, hcm, hcell⟩ := ho.form
  rcases a with _ | ad
  · exact absurd (hno rfl).2 (spl_ne 32 s)
  obtain ⟨gp, rfl, hb1, hb2, hpcs⟩ := hcell ad rfl
  obtain ⟨L, hL⟩ : ∃ L, L = spl 32 s := ⟨_, rfl⟩
  obtain ⟨p, hp⟩ : ∃ p, p = L.length := ⟨_, rfl⟩
  rw [← hL] at hpc hpcs ⊢
  rw [← hp] at hpc ⊢
  have HL := Lib.hid (And.intro hL hp)
  have H1 : Aside (EAt w1 g0 0 0 0 0 (.slice none 0 0) 0 false ∧ Stp [] w [] w1 ∧ (∀ j x, L[j]? = some x → w1.cell? ⟨gp, j, none⟩ = some (.string (st x))) ∧ g0 < gp ∧ gp < w1.heap.size) := ⟨H0.out.1.other s1 (by simp), H0.out.2.1.trans s1, hpcs, by have := H0.out.2.2; omega, hb2⟩
  clear H0 s1 ho hno hpcs hcell hb1 hb2 hL hp KC
  go_upto_region 3 with fail
  have H2 : Aside (EAt (w1.alloc (.cells #[.int .i64 0, .int .u32 0, .int .u8 0, .int .u8 0, .slice none 0 0, .int .i64 0, .bool false] 43)) g0 0 0 0 0 (.slice none 0 0) 0 false ∧ EAt (w1.alloc (.cells #[.int .i64 0, .int .u32 0, .int .u8 0, .int .u8 0, .slice none 0 0, .int .i64 0, .bool false] 43)) w1.heap.size 0 0 0 0 (.slice none 0 0) 0 false ∧ Stp [] w [] (w1.alloc (.cells #[.int .i64 0, .int .u32 0, .int .u8 0, .int .u8 0, .slice none 0 0, .int .i64 0, .bool false] 43)) ∧ (∀ j x, L[j]? = some x → (w1.alloc (.cells #[.int .i64 0, .int .u32 0, .int .u8 0, .int .u8 0, .slice none 0 0, .int .i64 0, .bool false] 43)).cell? ⟨gp, j, none⟩ = some (.string (st x))) ∧ (g0 < gp ∧ gp < w1.heap.size ∧ w1.heap.size < (w1.alloc (.cells #[.int .i64 0, .int .u32 0, .int .u8 0, .int .u8 0, .slice none 0 0, .int .i64 0, .bool false] 43)).heap.size)) :=
    ⟨H1.out.1.other (Stp.alloc [] _ _) (by simp), heap_alloc_new w1 _, H1.out.2.1.trans (Stp.alloc [] _ _), fun j x hx => ((Stp.alloc [] w1 (.cells #[.int .i64 0, .int .u32 0, .int .u8 0, .int .u8 0, .slice none 0 0, .int .i64 0, .bool false] 43)).cell (a := ⟨gp, j, none⟩) H1.out.2.2.2.2 (by simp)).trans (H1.out.2.2.1 j x hx), H1.out.2.2.2.1, H1.out.2.2.2.2, by simp⟩
  generalize w1.alloc (.cells #[.int .i64 0, .int .u32 0, .int .u8 0, .int .u8 0, .slice none 0 0, .int .i64 0, .bool false] 43) = w2 at *
  generalize w1.heap.size = g1 at *
  have c0 := H2.out.2.1.c0
  have c1 := H2.out.2.1.c1
  have c2 := H2.out.2.1.c2
  have c3 := H2.out.2.1.c3
  have c4 := H2.out.2.1.c4
  have c5 := H2.out.2.1.c5
  have c6 := H2.out.2.1.c6
  clear H1
  go_upto_region 4 with fail
  have H3 : Aside (T3 w (w2.alloc (.cells #[.int .i64 0, .int .u32 0, .int .u8 0, .int .u8 0, .slice none 0 0, .int .i64 0, .bool false] 43)) g0 g1 w2.heap.size gp L 0 0 0 0 (.slice none 0 0) 0 false) :=
    ⟨H2.out.1.other (Stp.alloc [] _ _) (by simp), H2.out.2.1.other (Stp.alloc [] _ _) (by simp), heap_alloc_new w2 _, H2.out.2.2.1.trans (Stp.alloc [] _ _), fun j x hx => ((Stp.alloc [] w2 (.cells #[.int .i64 0, .int .u32 0, .int .u8 0, .int .u8 0, .slice none 0 0, .int .i64 0, .bool false] 43)).cell (a := ⟨gp, j, none⟩) (Nat.lt_trans H2.out.2.2.2.2.2.1 H2.out.2.2.2.2.2.2) (by simp)).trans (H2.out.2.2.2.1 j x hx), by rw [HG.out]; exact Nat.le_refl _, H2.out.2.2.2.2.1, H2.out.2.2.2.2.2.1, H2.out.2.2.2.2.2.2, by have := H2.out.2.2.2.2; simp; omega⟩
  generalize w2.alloc (.cells #[.int .i64 0, .int .u32 0, .int .u8 0, .int .u8 0, .slice none 0 0, .int .i64 0, .bool false] 43) = w3 at *
  generalize w2.heap.size = g2 at *
  clear H2 c0 c1 c2 c3 c4 c5 c6
  go_upto_region 6 with fail
  have k0 := H3.out.e.c0
  have k1 := H3.out.e.fz 0
  go_upto_region 7 with fail
  have H4 : Aside (T3 w (w3.setCell ⟨g1, 0, none⟩ (.int .i64 5)) g0 g1 g2 gp L 5 0 0 0 (.slice none 0 0) 0 false) := H3.out.act (stp_one _ _ _ _) (H3.out.e.setK 5)
  generalize w3.setCell ⟨g1, 0, none⟩ (.int .i64 5) = w4 at *
  clear H3 k0 k1
  go_upto_region 9 with fail
  have c0 := H4.out.r.c0
  have c1 := H4.out.r.c1
  have c2 := H4.out.r.c2
  have c3 := H4.out.r.c3
  have c4 := H4.out.r.c4
  have c5 := H4.out.r.c5
  have c6 := H4.out.r.c6
  have e0 := H4.out.e.c0
  have e1 := H4.out.e.c1
  have e2 := H4.out.e.c2
  have e3 := H4.out.e.c3
  have e4 := H4.out.e.c4
  have e5 := H4.out.e.c5
  have e6 := H4.out.e.c6
  have z0 := H4.out.r.fz 0
  have z1 := H4.out.r.fz 1
  have z2 := H4.out.r.fz 2
  have z3 := H4.out.r.fz 3
  have z4 := H4.out.r.fz 4
  have z5 := H4.out.r.fz 5
  have z6 := H4.out.r.fz 6
  go_wp2
  refine bodyPost_ret (res_eff2 rfl _ rfl (H4.out.r.set7 5 0 0 0 (.slice none 0 0) 0 false)) rfl ?_
  refine ⟨(H4.out.stp.fresh (stp7 _ _ _ _ _ _ _ _ _) (by have := H4.out.lo; simp; omega)).none, ?_⟩
  rw [HRF.out]
  exact ⟨_, rfl, none, 0, rfl, Bts.nil _ _, Nat.le_refl _, fun _ => rfl, fun ad h => by cases h⟩

set_option maxHeartbeats 2000000 in
set_option maxRecDepth 100000 in
theorem rd_his (s : List UInt8) (hs : s.length ≤ 2000) (w : World) (h5 : s = [104, 105, 115, 116, 111, 114, 121]) : Calls Tryz.prog 24 #[.string (st s)] w (EffTo (rf s) w) := by
  have HRF : Hid (rf s = some (6, E0)) := Lib.hid (by rw [h5]; rfl)
  have q1 : ((st s).toList == [101, 110, 100]) = false := by rw [st_toList]; rw [h5]; rfl
  have q2 : ((st s).toList == [104, 105, 115, 116, 111, 114, 121]) = true := by rw [st_toList]; rw [h5]; rfl
  clear h5
  have KC := Lib.hid (fun W => rcut_run s 32 (by omega) W)
  have cv : ((32 : UInt8).toNat : Int) = 32 := rfl
  rw [cv] at KC
  clear cv
  go_enter Tryz.func24, Tryz.ntmps24
  have H0 : Aside (EAt (w.alloc (.cells #[.int .i64 0, .int .u32 0, .int .u8 0, .int .u8 0, .slice none 0 0, .int .i64 0, .bool false] 43)) w.heap.size 0 0 0 0 (.slice none 0 0) 0 false ∧ Stp [] w [] (w.alloc (.cells #[.int .i64 0, .int .u32 0, .int .u8 0, .int .u8 0, .slice none 0 0, .int .i64 0, .bool false] 43)) ∧ (w.alloc (.cells #[.int .i64 0, .int .u32 0, .int .u8 0, .int .u8 0, .slice none 0 0, .int .i64 0, .bool false] 43)).heap.size = w.heap.size + 1) := ⟨heap_alloc_new w _, Stp.alloc [] w _, by simp⟩
  obtain ⟨g0, hg0⟩ : ∃ g0, g0 = w.heap.size := ⟨_, rfl⟩
  rw [← hg0] at H0
  go_upto_region 1 with fail
  rw [← hg0]
  have HG := Lib.hid hg0
  generalize w.alloc (.cells #[.int .i64 0, .int .u32 0, .int .u8 0, .int .u8 0, .slice none 0 0, .int .i64 0, .bool false] 43) = w0 at *
  clear hg0
  go_wp2_with fail
  refine (KC.out _).mono ?_
  rintro _ w1 ⟨v, rfl, ho, s1⟩
  obtain ⟨a, cap, rfl, hno, hpc, hcm, hcell⟩ := ho.form
  rcases a with _ | ad
  · exact absurd (hno rfl).2 (spl_ne 32 s)
  obtain ⟨gp, rfl, hb1, hb2, hpcs⟩ := hcell ad rfl
  obtain ⟨L, hL⟩ : ∃ L, L = spl 32 s := ⟨_, rfl⟩
  obtain ⟨p, hp⟩ : ∃ p, p = L.length := ⟨_, rfl⟩
  rw [← hL] at hpc hpcs ⊢
  rw [← hp] at hpc ⊢
  have HL := Lib.hid (And.intro hL hp)
  have H1 : Aside (EAt w1 g0 0 0 0 0 (.slice none 0 0) 0 false ∧ Stp [] w [] w1 ∧ (∀ j x, L[j]? = some x → w1.cell? ⟨gp, j, none⟩ = some (.string (st x))) ∧ g0 < gp ∧ gp < w1.heap.size) := ⟨H0.out.1.other s1 (by simp), H0.out.2.1.trans s1, hpcs, by have := H0.out.2.2; omega, hb2⟩
  clear H0 s1 ho hno hpcs hcell hb1 hb2 hL hp KC
  go_upto_region 3 with fail
  have H2 : Aside (EAt (w1.alloc (.cells #[.int .i64 0, .int .u32 0, .int .u8 0, .int .u8 0, .slice none 0 0, .int .i64 0, .bool false] 43)) g0 0 0 0 0 (.slice none 0 0) 0 false ∧ EAt (w1.alloc (.cells #[.int .i64 0, .int .u32 0, .int .u8 0, .int .u8 0, .slice none 0 0, .int .i64 0, .bool false] 43)) w1.heap.size 0 0 0 0 (.slice none 0 0) 0 false ∧ Stp [] w [] (w1.alloc (.cells #[.int .i64 0, .int .u32 0, .int .u8 0, .int .u8 0, .slice none 0 0, .int .i64 0, .bool false] 43)) ∧ (∀ j x, L[j]? = some x → (w1.alloc (.cells #[.int .i64 0, .int .u32 0, .int .u8 0, .int .u8 0, .slice none 0 0, .int .i64 0, .bool false] 43)).cell? ⟨gp, j, none⟩ = some (.string (st x))) ∧ (g0 < gp ∧ gp < w1.heap.size ∧ w1.heap.size < (w1.alloc (.cells #[.int .i64 0, .int .u32 0, .int .u8 0, .int .u8 0, .slice none 0 0, .int .i64 0, .bool false] 43)).heap.size)) :=
    ⟨H1.out.1.other (Stp.alloc [] _ _) (by simp), heap_alloc_new w1 _, H1.out.2.1.trans (Stp.alloc [] _ _), fun j x hx => ((Stp.alloc [] w1 (.cells #[.int .i64 0, .int .u32 0, .int .u8 0, .int .u8 0, .slice none 0 0, .int .i64 0, .bool false] 43)).cell (a := ⟨gp, j, none⟩) H1.out.2.2.2.2 (by simp)).trans (H1.out.2.2.1 j x hx), H1.out.2.2.2.1, H1.out.2.2.2.2, by simp⟩
  generalize w1.alloc (.cells #[.int .i64 0, .int .u32 0, .int .u8 0, .int .u8 0, .slice none 0 0, .int .i64 0, .bool false] 43) = w2 at *
  generalize w1.heap.size = g1 at *
  have c0 := H2.out.2.1.c0
  have c1 := H2.out.2.1.c1
  have c2 := H2.out.2.1.c2
  have c3 := H2.out.2.1.c3
  have c4 := H2.out.2.1.c4
  have c5 := H2.out.2.1.c5
  have c6 := H2.out.2.1.c6
  clear H1
  go_upto_region 4 with fail
  have H3 : Aside (T3 w (w2.alloc (.cells #[.int .i64 0, .int .u32 0, .int .u8 0, .int .u8 0, .slice none 0 0, .int .i64 0, .bool false] 43)) g0 g1 w2.heap.size gp L 0 0 0 0 (.slice none 0 0) 0 false) :=
    ⟨H2.out.1.other (Stp.alloc [] _ _) (by simp), H2.out.2.1.other (Stp.alloc [] _ _) (by simp), heap_alloc_new w2 _, H2.out.2.2.1.trans (Stp.alloc [] _ _), fun j x hx => ((Stp.alloc [] w2 (.cells #[.int .i64 0, .int .u32 0, .int .u8 0, .int .u8 0, .slice none 0 0, .int .i64 0, .bool false] 43)).cell (a := ⟨gp, j, none⟩) (Nat.lt_trans H2.out.2.2.2.2.2.1 H2.out.2.2.2.2.2.2) (by simp)).trans (H2.out.2.2.2.1 j x hx), by rw [HG.out]; exact Nat.le_refl _, H2.out.2.2.2.2.1, H2.out.2.2.2.2.2.1, H2.out.2.2.2.2.2.2, by have := H2.out.2.2.2.2; simp; omega⟩
  generalize w2.alloc (.cells #[.int .i64 0, .int .u32 0, .int .u8 0, .int .u8 0, .slice none 0 0, .int .i64 0, .bool false] 43) = w3 at *
  generalize w2.heap.size = g2 at *
  clear H2 c0 c1 c2 c3 c4 c5 c6
  go_upto_region 6 with fail
  have k0 := H3.out.e.c0
  have k1 := H3.out.e.fz 0
  go_upto_region 7 with fail
  have H4 : Aside (T3 w (w3.setCell ⟨g1, 0, none⟩ (.int .i64 5)) g0 g1 g2 gp L 5 0 0 0 (.slice none 0 0) 0 false) := H3.out.act (stp_one _ _ _ _) (H3.out.e.setK 5)
  generalize w3.setCell ⟨g1, 0, none⟩ (.int .i64 5) = w4 at *
  clear H3 k0 k1
  go_upto_region 8 with fail
  have k0 := H4.out.e.c0
  have k1 := H4.out.e.fz 0
  go_upto_region 9 with fail
  have H5 : Aside (T3 w (w4.setCell ⟨g1, 0, none⟩ (.int .i64 6)) g0 g1 g2 gp L 6 0 0 0 (.slice none 0 0) 0 false) := H4.out.act (stp_one _ _ _ _) (H4.out.e.setK 6)
  generalize w4.setCell ⟨g1, 0, none⟩ (.int .i64 6) = w5 at *
  clear H4 k0 k1
  have c0 := H5.out.r.c0
  have c1 := H5.out.r.c1
  have c2 := H5.out.r.c2
  have c3 := H5.out.r.c3
  have c4 := H5.out.r.c4
  have c5 := H5.out.r.c5
  have c6 := H5.out.r.c6
  have e0 := H5.out.e.c0
  have e1 := H5.out.e.c1
  have e2 := H5.out.e.c2
  have e3 := H5.out.e.c3
  have e4 := H5.out.e.c4
  have e5 := H5.out.e.c5
  have e6 := H5.out.e.c6
  have z0 := H5.out.r.fz 0
  have z1 := H5.out.r.fz 1
  have z2 := H5.out.r.fz 2
  have z3 := H5.out.r.fz 3
  have z4 := H5.out.r.fz 4
  have z5 := H5.out.r.fz 5
  have z6 := H5.out.r.fz 6
  go_wp2
  refine bodyPost_ret (res_eff2 rfl _ rfl (H5.out.r.set7 6 0 0 0 (.slice none 0 0) 0 false)) rfl ?_
  refine ⟨(H5.out.stp.fresh (stp7 _ _ _ _ _ _ _ _ _) (by have := H5.out.lo; simp; omega)).none, ?_⟩
  rw [HRF.out]
  exact ⟨_, rfl, none, 0, rfl, Bts.nil _ _, Nat.le_refl _, fun _ => rfl, fun ad h => by cases h⟩

set_option maxHeartbeats 2000000 in
set_option maxRecDepth 100000 in
theorem rd_few (s : List UInt8) (hs : s.length ≤ 2000) (w : World) (h1 : s ≠ [101, 110, 100]) (h2 : s ≠ [104, 105, 115, 116, 111, 114, 121]) (h3 : (spl 32 s).length < 2) : Calls Tryz.prog 24 #[.string (st s)] w (EffTo (rf s) w) := by
  have HRF : Hid (rf s = none) := Lib.hid (by
    unfold rf
    rw [if_neg h1, if_neg h2]
    generalize spl 32 s = L at *
    rcases L with _ | ⟨a, _ | ⟨b, r⟩⟩
    · rfl
    · rfl
    · simp at h3; omega)
  have q1 : ((st s).toList == [101, 110, 100]) = false := by rw [st_toList]; exact beq_eq_false_iff_ne.2 h1
  have q2 : ((st s).toList == [104, 105, 115, 116, 111, 114, 121]) = false := by rw [st_toList]; exact beq_eq_false_iff_ne.2 h2
  have H3s := Lib.hid h3
  clear h1 h2 h3
  have KC := Lib.hid (fun W => rcut_run s 32 (by omega) W)
  have cv : ((32 : UInt8).toNat : Int) = 32 := rfl
  rw [cv] at KC
  clear cv
  go_enter Tryz.func24, Tryz.ntmps24
  have H0 : Aside (EAt (w.alloc (.cells #[.int .i64 0, .int .u32 0, .int .u8 0, .int .u8 0, .slice none 0 0, .int .i64 0, .bool false] 43)) w.heap.size 0 0 0 0 (.slice none 0 0) 0 false ∧ Stp [] w [] (w.alloc (.cells #[.int .i64 0, .int .u32 0, .int .u8 0, .int .u8 0, .slice none 0 0, .int .i64 0, .bool false] 43)) ∧ (w.alloc (.cells #[.int .i64 0, .int .u32 0, .int .u8 0, .int .u8 0, .slice none 0 0, .int .i64 0, .bool false] 43)).heap.size = w.heap.size + 1) := ⟨heap_alloc_new w _, Stp.alloc [] w _, by simp⟩
  obtain ⟨g0, hg0⟩ : ∃ g0, g0 = w.heap.size := ⟨_, rfl⟩
  rw [← hg0] at H0
  go_upto_region 1 with fail
  rw [← hg0]
  have HG := Lib.hid hg0
  generalize w.alloc (.cells #[.int .i64 0, .int .u32 0, .int .u8 0, .int .u8 0, .slice none 0 0, .int .i64 0, .bool false] 43) = w0 at *
  clear hg0
  go_wp2_with fail
  refine (KC.out _).mono ?_
  rintro _ w1 ⟨v, rfl, ho, s1⟩
  obtain ⟨a, cap, rfl, hno, hpc, hcm, hcell⟩ := ho.form
  rcases a with _ | ad
  · exact absurd (hno rfl).2 (spl_ne 32 s)
  obtain ⟨gp, rfl, hb1, hb2, hpcs⟩ := hcell ad rfl
  obtain ⟨L, hL⟩ : ∃ L, L = spl 32 s := ⟨_, rfl⟩
  obtain ⟨p, hp⟩ : ∃ p, p = L.length := ⟨_, rfl⟩
  rw [← hL] at hpc hpcs ⊢
  rw [← hp] at hpc ⊢
  have HL := Lib.hid (And.intro hL hp)
  have H1 : Aside (EAt w1 g0 0 0 0 0 (.slice none 0 0) 0 false ∧ Stp [] w [] w1 ∧ (∀ j x, L[j]? = some x → w1.cell? ⟨gp, j, none⟩ = some (.string (st x))) ∧ g0 < gp ∧ gp < w1.heap.size) := ⟨H0.out.1.other s1 (by simp), H0.out.2.1.trans s1, hpcs, by have := H0.out.2.2; omega, hb2⟩
  clear H0 s1 ho hno hpcs hcell hb1 hb2 hL hp KC
  go_upto_region 3 with fail
  have H2 : Aside (EAt (w1.alloc (.cells #[.int .i64 0, .int .u32 0, .int .u8 0, .int .u8 0, .slice none 0 0, .int .i64 0, .bool false] 43)) g0 0 0 0 0 (.slice none 0 0) 0 false ∧ EAt (w1.alloc (.cells #[.int .i64 0, .int .u32 0, .int .u8 0, .int .u8 0, .slice none 0 0, .int .i64 0, .bool false] 43)) w1.heap.size 0 0 0 0 (.slice none 0 0) 0 false ∧ Stp [] w [] (w1.alloc (.cells #[.int .i64 0, .int .u32 0, .int .u8 0, .int .u8 0, .slice none 0 0, .int .i64 0, .bool false] 43)) ∧ (∀ j x, L[j]? = some x → (w1.alloc (.cells #[.int .i64 0, .int .u32 0, .int .u8 0, .int .u8 0, .slice none 0 0, .int .i64 0, .bool false] 43)).cell? ⟨gp, j, none⟩ = some (.string (st x))) ∧ (g0 < gp ∧ gp < w1.heap.size ∧ w1.heap.size < (w1.alloc (.cells #[.int .i64 0, .int .u32 0, .int .u8 0, .int .u8 0, .slice none 0 0, .int .i64 0, .bool false] 43)).heap.size)) :=
    ⟨H1.out.1.other (Stp.alloc [] _ _) (by simp), heap_alloc_new w1 _, H1.out.2.1.trans (Stp.alloc [] _ _), fun j x hx => ((Stp.alloc [] w1 (.cells #[.int .i64 0, .int .u32 0, .int .u8 0, .int .u8 0, .slice none 0 0, .int .i64 0, .bool false] 43)).cell (a := ⟨gp, j, none⟩) H1.out.2.2.2.2 (by simp)).trans (H1.out.2.2.1 j x hx), H1.out.2.2.2.1, H1.out.2.2.2.2, by simp⟩
  generalize w1.alloc (.cells #[.int .i64 0, .int .u32 0, .int .u8 0, .int .u8 0, .slice none 0 0, .int .i64 0, .bool false] 43) = w2 at *
  generalize w1.heap.size = g1 at *
  have c0 := H2.out.2.1.c0
  have c1 := H2.out.2.1.c1
  have c2 := H2.out.2.1.c2
  have c3 := H2.out.2.1.c3
  have c4 := H2.out.2.1.c4
  have c5 := H2.out.2.1.c5
  have c6 := H2.out.2.1.c6
  clear H1
  go_upto_region 4 with fail
  have H3 : Aside (T3 w (w2.alloc (.cells #[.int .i64 0, .int .u32 0, .int .u8 0, .int .u8 0, .slice none 0 0, .int .i64 0, .bool false] 43)) g0 g1 w2.heap.size gp L 0 0 0 0 (.slice none 0 0) 0 false) :=
    ⟨H2.out.1.other (Stp.alloc [] _ _) (by simp), H2.out.2.1.other (Stp.alloc [] _ _) (by simp), heap_alloc_new w2 _, H2.out.2.2.1.trans (Stp.alloc [] _ _), fun j x hx => ((Stp.alloc [] w2 (.cells #[.int .i64 0, .int .u32 0, .int .u8 0, .int .u8 0, .slice none 0 0, .int .i64 0, .bool false] 43)).cell (a := ⟨gp, j, none⟩) (Nat.lt_trans H2.out.2.2.2.2.2.1 H2.out.2.2.2.2.2.2) (by simp)).trans (H2.out.2.2.2.1 j x hx), by rw [HG.out]; exact Nat.le_refl _, H2.out.2.2.2.2.1, H2.out.2.2.2.2.2.1, H2.out.2.2.2.2.2.2, by have := H2.out.2.2.2.2; simp; omega⟩
  generalize w2.alloc (.cells #[.int .i64 0, .int .u32 0, .int .u8 0, .int .u8 0, .slice none 0 0, .int .i64 0, .bool false] 43) = w3 at *
  generalize w2.heap.size = g2 at *
  clear H2 c0 c1 c2 c3 c4 c5 c6
  have hp2 : p < 2 := by rw [HL.out.2, HL.out.1]; exact H3s.out
  have hp3 : (p : Int) < 2 := by omega
  go_upto_region 11 with fail
  have c0 := H3.out.r.c0
  have c1 := H3.out.r.c1
  have c2 := H3.out.r.c2
  have c3 := H3.out.r.c3
  have c4 := H3.out.r.c4
  have c5 := H3.out.r.c5
  have c6 := H3.out.r.c6
  have e0 := H3.out.z.c0
  have e1 := H3.out.z.c1
  have e2 := H3.out.z.c2
  have e3 := H3.out.z.c3
  have e4 := H3.out.z.c4
  have e5 := H3.out.z.c5
  have e6 := H3.out.z.c6
  have z0 := H3.out.r.fz 0
  have z1 := H3.out.r.fz 1
  have z2 := H3.out.r.fz 2
  have z3 := H3.out.r.fz 3
  have z4 := H3.out.r.fz 4
  have z5 := H3.out.r.fz 5
  have z6 := H3.out.r.fz 6
  go_wp2
  refine bodyPost_ret (res_eff2 rfl _ rfl (H3.out.r.set7 0 0 0 0 (.slice none 0 0) 0 false)) rfl ?_
  refine ⟨(H3.out.stp.fresh (stp7 _ _ _ _ _ _ _ _ _) (by have := H3.out.lo; simp; omega)).none, ?_⟩
  rw [HRF.out]
  rfl

end Go.Proofs.YthfiilhbgogoaaaGreatDoor
