/-
  The document's Read of a line, way by way.
-/
import Derived.Test.YthfiilhbgogoaaaGreatDoorRefRd
import Derived.Test.YthfiilhbgogoaaaGreatDoorRefBy
import Derived.Test.YthfiilhbgogoaaaGreatDoorRefH
import Derived.Deep.DeepCutAuto
import Derived.Deep.CutBlock
namespace Go.Proofs.YthfiilhbgogoaaaGreatDoor
open Go.RowKit Go.Lib
set_option linter.unusedVariables false
set_option linter.unusedSimpArgs false


set_option maxHeartbeats 2000000 in
set_option maxRecDepth 100000 in
theorem rd_wrote2nt (s : List UInt8) (hs : s.length ≤ 2000) (w : World) (h1 : s ≠ [101, 110, 100]) (h2 : s ≠ [104, 105, 115, 116, 111, 114, 121]) (a b : List UInt8) (R : List (List UInt8)) (hL : spl 32 s = a :: b :: R) (ha : a = [119, 114, 111, 116, 101]) (hb : b = [111, 107]) (c d : List UInt8) (hR : R = [c, d]) (hu : unhex c = none) : Calls Tryz.prog 24 #[.string (st s)] w (EffTo (rf s) w) := by
  have HRF : Hid (rf s = none) := Lib.hid (by
    unfold rf
    rw [if_neg h1, if_neg h2, hL]
    subst hR
    simp [rfL, ha, hb, tks, tk, hu])
  have q1 : ((st s).toList == [101, 110, 100]) = false := by rw [st_toList]; exact beq_eq_false_iff_ne.2 h1
  have q2 : ((st s).toList == [104, 105, 115, 116, 111, 114, 121]) = false := by rw [st_toList]; exact beq_eq_false_iff_ne.2 h2
  have qagot : ((st a).toList == [103, 111, 116]) = false := by rw [st_toList, ha]; rfl
  have qawas : ((st a).toList == [119, 97, 115]) = false := by rw [st_toList, ha]; rfl
  have qawrote : ((st a).toList == [119, 114, 111, 116, 101]) = true := by rw [st_toList, ha]; rfl
  have qaread : ((st a).toList == [114, 101, 97, 100]) = false := by rw [st_toList, ha]; rfl
  have qasignal : ((st a).toList == [115, 105, 103, 110, 97, 108]) = false := by rw [st_toList, ha]; rfl
  have qb1 : ((st b).toList == [111, 107]) = true := by rw [st_toList, hb]; rfl
  have HXhR := Lib.hid hR
  have HXhu := Lib.hid hu
  clear hR hu
  have HLL := Lib.hid hL
  clear hL h1 h2 ha hb
  have KC := Lib.hid (fun W => rcut_run s 32 (by omega) W)
  have cv : ((32 : UInt8).toNat : Int) = 32 := rfl
  rw [cv] at KC
  clear cv
  go_enter Tryz.func24, Tryz.ntmps24
  have H0 : Aside (EAt (w.alloc (.cells #[.int .i64 0, .int .u32 0, .int .u8 0, .int .u8 0, .slice none 0 0, .int .i64 0, .bool false] 43)) w.heap.size 0 0 0 0 (.slice none 0 0) 0 false ∧ Stp [] w [] (w.alloc (.cells #[.int .i64 0, .int .u32 0, .int .u8 0, .int .u8 0, .slice none 0 0, .int .i64 0, .bool false] 43)) ∧ (w.alloc (.cells #[.int .i64 0, .int .u32 0, .int .u8 0, .int .u8 0, .slice none 0 0, .int .i64 0, .bool false] 43)).heap.size = w.heap.size + 1) := ⟨heap_alloc_new w _, Stp.alloc [] w _, by simp⟩
  obtain ⟨g0, hg0⟩ : ∃ g0, g0 = w.heap.size := ⟨_, rfl⟩
  rw [← hg0] at H0
  go_upto_region 1 with fail
  rw [← hg0]
  have HG := Lib.hid hg0
  generalize w.alloc (.cells #[.int .i64 0, .int .u32 0, .int .u8 0, .int .u8 0, .slice none 0 0, .int .i64 0, .bool false] 43) = w0 at *
  clear hg0
  go_wp2_with fail
  refine (KC.out _).mono ?_
  rintro _ w1 ⟨v, rfl, ho, s1⟩
  obtain ⟨a, cap, rfl, hno, hpc, hcm, hcell⟩ := ho.form
  rcases a with _ | ad
  · exact absurd (hno rfl).2 (spl_ne 32 s)
  obtain ⟨gp, rfl, hb1, hb2, hpcs⟩ := hcell ad rfl
  obtain ⟨L, hL⟩ : ∃ L, L = spl 32 s := ⟨_, rfl⟩
  obtain ⟨p, hp⟩ : ∃ p, p = L.length := ⟨_, rfl⟩
  rw [← hL] at hpc hpcs ⊢
  rw [← hp] at hpc ⊢
  have HL := Lib.hid (And.intro hL hp)
  have H1 : Aside (EAt w1 g0 0 0 0 0 (.slice none 0 0) 0 false ∧ Stp [] w [] w1 ∧ (∀ j x, L[j]? = some x → w1.cell? ⟨gp, j, none⟩ = some (.string (st x))) ∧ g0 < gp ∧ gp < w1.heap.size) := ⟨H0.out.1.other s1 (by simp), H0.out.2.1.trans s1, hpcs, by have := H0.out.2.2; omega, hb2⟩
  clear H0 s1 ho hno hpcs hcell hb1 hb2 hL hp KC
  go_upto_region 3 with fail
  have H2 : Aside (EAt (w1.alloc (.cells #[.int .i64 0, .int .u32 0, .int .u8 0, .int .u8 0, .slice none 0 0, .int .i64 0, .bool false] 43)) g0 0 0 0 0 (.slice none 0 0) 0 false ∧ EAt (w1.alloc (.cells #[.int .i64 0, .int .u32 0, .int .u8 0, .int .u8 0, .slice none 0 0, .int .i64 0, .bool false] 43)) w1.heap.size 0 0 0 0 (.slice none 0 0) 0 false ∧ Stp [] w [] (w1.alloc (.cells #[.int .i64 0, .int .u32 0, .int .u8 0, .int .u8 0, .slice none 0 0, .int .i64 0, .bool false] 43)) ∧ (∀ j x, L[j]? = some x → (w1.alloc (.cells #[.int .i64 0, .int .u32 0, .int .u8 0, .int .u8 0, .slice none 0 0, .int .i64 0, .bool false] 43)).cell? ⟨gp, j, none⟩ = some (.string (st x))) ∧ (g0 < gp ∧ gp < w1.heap.size ∧ w1.heap.size < (w1.alloc (.cells #[.int .i64 0, .int .u32 0, .int .u8 0, .int .u8 0, .slice none 0 0, .int .i64 0, .bool false] 43)).heap.size)) :=
    ⟨H1.out.1.other (Stp.alloc [] _ _) (by simp), heap_alloc_new w1 _, H1.out.2.1.trans (Stp.alloc [] _ _), fun j x hx => ((Stp.alloc [] w1 (.cells #[.int .i64 0, .int .u32 0, .int .u8 0, .int .u8 0, .slice none 0 0, .int .i64 0, .bool false] 43)).cell (a := ⟨gp, j, none⟩) H1.out.2.2.2.2 (by simp)).trans (H1.out.2.2.1 j x hx), H1.out.2.2.2.1, H1.out.2.2.2.2, by simp⟩
  generalize w1.alloc (.cells #[.int .i64 0, .int .u32 0, .int .u8 0, .int .u8 0, .slice none 0 0, .int .i64 0, .bool false] 43) = w2 at *
  generalize w1.heap.size = g1 at *
  have c0 := H2.out.2.1.c0
  have c1 := H2.out.2.1.c1
  have c2 := H2.out.2.1.c2
  have c3 := H2.out.2.1.c3
  have c4 := H2.out.2.1.c4
  have c5 := H2.out.2.1.c5
  have c6 := H2.out.2.1.c6
  clear H1
  go_upto_region 4 with fail
  have H3 : Aside (T3 w (w2.alloc (.cells #[.int .i64 0, .int .u32 0, .int .u8 0, .int .u8 0, .slice none 0 0, .int .i64 0, .bool false] 43)) g0 g1 w2.heap.size gp L 0 0 0 0 (.slice none 0 0) 0 false) :=
    ⟨H2.out.1.other (Stp.alloc [] _ _) (by simp), H2.out.2.1.other (Stp.alloc [] _ _) (by simp), heap_alloc_new w2 _, H2.out.2.2.1.trans (Stp.alloc [] _ _), fun j x hx => ((Stp.alloc [] w2 (.cells #[.int .i64 0, .int .u32 0, .int .u8 0, .int .u8 0, .slice none 0 0, .int .i64 0, .bool false] 43)).cell (a := ⟨gp, j, none⟩) (Nat.lt_trans H2.out.2.2.2.2.2.1 H2.out.2.2.2.2.2.2) (by simp)).trans (H2.out.2.2.2.1 j x hx), by rw [HG.out]; exact Nat.le_refl _, H2.out.2.2.2.2.1, H2.out.2.2.2.2.2.1, H2.out.2.2.2.2.2.2, by have := H2.out.2.2.2.2; simp; omega⟩
  generalize w2.alloc (.cells #[.int .i64 0, .int .u32 0, .int .u8 0, .int .u8 0, .slice none 0 0, .int .i64 0, .bool false] 43) = w3 at *
  generalize w2.heap.size = g2 at *
  clear H2 c0 c1 c2 c3 c4 c5 c6
  have hLL : L = a :: b :: R := HL.out.1.trans HLL.out
  have d0 : w3.cell? ⟨gp, 0, none⟩ = some (.string (st a)) := H3.out.p 0 a (by rw [hLL]; rfl)
  have d1 : w3.cell? ⟨gp, 1, none⟩ = some (.string (st b)) := H3.out.p 1 b (by rw [hLL]; rfl)
  have hpR : p = R.length + 2 := by rw [HL.out.2, hLL]; rfl
  have hp2 : ¬ (p : Int) < 2 := by omega
  have hp0 : (0 : Int) < (p : Int) := by omega
  have hp1 : (1 : Int) < (p : Int) := by omega
  have HR := Lib.hid (And.intro hLL hpR)
  clear hLL hpR
  obtain ⟨q, hq⟩ : ∃ q, p = q + 1 := ⟨p - 1, by have := HR.out.2; omega⟩
  obtain ⟨z, hz⟩ : ∃ z, L[q]? = some z := ⟨L[q]'(by have := HL.out.2; omega), List.getElem?_eq_getElem _⟩
  have hzl : z.length ≤ 2000 := by have h1 := spl_mem_len 32 s z (by rw [← HL.out.1]; exact List.mem_of_getElem? hz); omega
  have KN := Lib.hid (fun W => rnum18_run z (by omega) W)
  obtain ⟨nz, hnz⟩ : ∃ nz, nz = rz (rnum 10 18 z) := ⟨_, rfl⟩
  rw [← hnz] at KN
  have HN := Lib.hid (And.intro hz (And.intro hnz hq))
  have hsub : IntKind.i64.wrap ((p : Int) - 1) = (q : Int) := by rw [IntKind.wrap_i64]; have := hcm; simp [maxLen] at this; omega
  have hq0 : (0 : Int) ≤ (q : Int) := by omega
  have hqp : (q : Int) < (p : Int) := by omega
  clear hz hnz hq hzl
  have k0 := H3.out.e.c6
  have k1 := H3.out.e.fz 6
  go_upto_region 13 with fail
  have H4 : Aside (T3 w (w3.setCell ⟨g1, 6, none⟩ (.bool true)) g0 g1 g2 gp L 0 0 0 0 (.slice none 0 0) 0 true) := H3.out.act (stp_one _ _ _ _) (H3.out.e.setO true)
  generalize w3.setCell ⟨g1, 6, none⟩ (.bool true) = w4 at *
  clear H3 k0 k1 d0 d1
  have d2 : w4.cell? ⟨gp, q, none⟩ = some (.string (st z)) := H4.out.p q z HN.out.1
  have d0 : w4.cell? ⟨gp, 0, none⟩ = some (.string (st a)) := H4.out.p 0 a (by rw [HR.out.1]; rfl)
  go_wp2_with fail
  refine (KN.out _).mono ?_
  rintro _ w4 ⟨rfl, rfl⟩
  clear KN d2
  have hpe : ((p : Int) != 4) = false := by
    have h1 := HR.out.2
    rw [HXhR.out] at h1
    have h2 : p = 4 := h1
    rw [h2]
    rfl
  have hp2' : (2 : Int) < (p : Int) := by have h1 := HR.out.2; rw [HXhR.out] at h1; have h2 : p = 4 := h1; omega
  have hcl : c.length ≤ 2000 := by have h1 := spl_mem_len 32 s c (by rw [← HL.out.1, HR.out.1, HXhR.out]; simp); omega
  have KB := Lib.hid (fun W => by have h := rbytes_run c (by omega) W; rw [HXhu.out] at h; exact h)
  clear hcl
  go_upto_region 29 with fail
  clear d0
  have k0 := H4.out.e.c0
  have k1 := H4.out.e.fz 0
  go_upto_region 30 with fail
  have H5 : Aside (T3 w (w4.setCell ⟨g1, 0, none⟩ (.int .i64 2)) g0 g1 g2 gp L 2 0 0 0 (.slice none 0 0) 0 true) := H4.out.act (stp_one _ _ _ _) (H4.out.e.setK 2)
  generalize w4.setCell ⟨g1, 0, none⟩ (.int .i64 2) = w5 at *
  clear H4 k0 k1
  have d3 : w5.cell? ⟨gp, 2, none⟩ = some (.string (st c)) := H5.out.p 2 c (by rw [HR.out.1, HXhR.out]; rfl)
  go_wp2_with fail
  refine (KB.out _).mono ?_
  rintro _ w6 ⟨s6, rfl⟩
  have H6 : Aside (T3 w w6 g0 g1 g2 gp L 2 0 0 0 (.slice none 0 0) 0 true) := H5.out.stays s6
  have k0 := H6.out.e.c4
  have k1 := H6.out.e.fz 4
  clear s6 H5 d3 KB
  go_upto_region 38 with fail
  have H7 : Aside (T3 w (w6.setCell ⟨g1, 4, none⟩ (.slice none 0 0)) g0 g1 g2 gp L 2 0 0 0 (.slice none 0 0) 0 true) := H6.out.act (stp_one _ _ _ _) (H6.out.e.setD _)
  generalize w6.setCell ⟨g1, 4, none⟩ (.slice none 0 0) = w7 at *
  clear H6 k0 k1
  go_upto_region 39 with fail
  have c0 := H7.out.r.c0
  have c1 := H7.out.r.c1
  have c2 := H7.out.r.c2
  have c3 := H7.out.r.c3
  have c4 := H7.out.r.c4
  have c5 := H7.out.r.c5
  have c6 := H7.out.r.c6
  have e0 := H7.out.z.c0
  have e1 := H7.out.z.c1
  have e2 := H7.out.z.c2
  have e3 := H7.out.z.c3
  have e4 := H7.out.z.c4
  have e5 := H7.out.z.c5
  have e6 := H7.out.z.c6
  have z0 := H7.out.r.fz 0
  have z1 := H7.out.r.fz 1
  have z2 := H7.out.r.fz 2
  have z3 := H7.out.r.fz 3
  have z4 := H7.out.r.fz 4
  have z5 := H7.out.r.fz 5
  have z6 := H7.out.r.fz 6
  go_wp2
  refine bodyPost_ret (res_eff2 rfl _ rfl (H7.out.r.set7 0 0 0 0 (.slice none 0 0) 0 false)) rfl ?_
  refine ⟨(H7.out.stp.fresh (stp7 _ _ _ _ _ _ _ _ _) (by have := H7.out.lo; simp; omega)).none, ?_⟩
  rw [HRF.out]
  rfl

set_option maxHeartbeats 2000000 in
set_option maxRecDepth 100000 in
theorem rd_wrote2mt (s : List UInt8) (hs : s.length ≤ 2000) (w : World) (h1 : s ≠ [101, 110, 100]) (h2 : s ≠ [104, 105, 115, 116, 111, 114, 121]) (a b : List UInt8) (R : List (List UInt8)) (hL : spl 32 s = a :: b :: R) (ha : a = [119, 114, 111, 116, 101]) (hb : b = [111, 107]) (c d : List UInt8) (hR : R = [c, d]) (D : List UInt8) (hu : unhex c = some D) (hv : rnum 10 18 d = none) : Calls Tryz.prog 24 #[.string (st s)] w (EffTo (rf s) w) := by
  have HRF : Hid (rf s = none) := Lib.hid (by
    unfold rf
    rw [if_neg h1, if_neg h2, hL]
    subst hR
    simp [rfL, ha, hb, tks, tk, hu, num_rnum, hv])
  have q1 : ((st s).toList == [101, 110, 100]) = false := by rw [st_toList]; exact beq_eq_false_iff_ne.2 h1
  have q2 : ((st s).toList == [104, 105, 115, 116, 111, 114, 121]) = false := by rw [st_toList]; exact beq_eq_false_iff_ne.2 h2
  have qagot : ((st a).toList == [103, 111, 116]) = false := by rw [st_toList, ha]; rfl
  have qawas : ((st a).toList == [119, 97, 115]) = false := by rw [st_toList, ha]; rfl
  have qawrote : ((st a).toList == [119, 114, 111, 116, 101]) = true := by rw [st_toList, ha]; rfl
  have qaread : ((st a).toList == [114, 101, 97, 100]) = false := by rw [st_toList, ha]; rfl
  have qasignal : ((st a).toList == [115, 105, 103, 110, 97, 108]) = false := by rw [st_toList, ha]; rfl
  have qb1 : ((st b).toList == [111, 107]) = true := by rw [st_toList, hb]; rfl
  have HXhR := Lib.hid hR
  have HXhu := Lib.hid hu
  have HXhv := Lib.hid hv
  clear hR hu hv
  have HLL := Lib.hid hL
  clear hL h1 h2 ha hb
  have KC := Lib.hid (fun W => rcut_run s 32 (by omega) W)
  have cv : ((32 : UInt8).toNat : Int) = 32 := rfl
  rw [cv] at KC
  clear cv
  go_enter Tryz.func24, Tryz.ntmps24
  have H0 : Aside (EAt (w.alloc (.cells #[.int .i64 0, .int .u32 0, .int .u8 0, .int .u8 0, .slice none 0 0, .int .i64 0, .bool false] 43)) w.heap.size 0 0 0 0 (.slice none 0 0) 0 false ∧ Stp [] w [] (w.alloc (.cells #[.int .i64 0, .int .u32 0, .int .u8 0, .int .u8 0, .slice none 0 0, .int .i64 0, .bool false] 43)) ∧ (w.alloc (.cells #[.int .i64 0, .int .u32 0, .int .u8 0, .int .u8 0, .slice none 0 0, .int .i64 0, .bool false] 43)).heap.size = w.heap.size + 1) := ⟨heap_alloc_new w _, Stp.alloc [] w _, by simp⟩
  obtain ⟨g0, hg0⟩ : ∃ g0, g0 = w.heap.size := ⟨_, rfl⟩
  rw [← hg0] at H0
  go_upto_region 1 with fail
  rw [← hg0]
  have HG := Lib.hid hg0
  generalize w.alloc (.cells #[.int .i64 0, .int .u32 0, .int .u8 0, .int .u8 0, .slice none 0 0, .int .i64 0, .bool false] 43) = w0 at *
  clear hg0
  go_wp2_with fail
  refine (KC.out _).mono ?_
  rintro _ w1 ⟨v, rfl, ho, s1⟩
  obtain ⟨a, cap, rfl, hno, hpc, hcm, hcell⟩ := ho.form
  rcases a with _ | ad
  · exact absurd (hno rfl).2 (spl_ne 32 s)
  obtain ⟨gp, rfl, hb1, hb2, hpcs⟩ := hcell ad rfl
  obtain ⟨L, hL⟩ : ∃ L, L = spl 32 s := ⟨_, rfl⟩
  obtain ⟨p, hp⟩ : ∃ p, p = L.length := ⟨_, rfl⟩
  rw [← hL] at hpc hpcs ⊢
  rw [← hp] at hpc ⊢
  have HL := Lib.hid (And.intro hL hp)
  have H1 : Aside (EAt w1 g0 0 0 0 0 (.slice none 0 0) 0 false ∧ Stp [] w [] w1 ∧ (∀ j x, L[j]? = some x → w1.cell? ⟨gp, j, none⟩ = some (.string (st x))) ∧ g0 < gp ∧ gp < w1.heap.size) := ⟨H0.out.1.other s1 (by simp), H0.out.2.1.trans s1, hpcs, by have := H0.out.2.2; omega, hb2⟩
  clear H0 s1 ho hno hpcs hcell hb1 hb2 hL hp KC
  go_upto_region 3 with fail
  have H2 : Aside (EAt (w1.alloc (.cells #[.int .i64 0, .int .u32 0, .int .u8 0, .int .u8 0, .slice none 0 0, .int .i64 0, .bool false] 43)) g0 0 0 0 0 (.slice none 0 0) 0 false ∧ EAt (w1.alloc (.cells #[.int .i64 0, .int .u32 0, .int .u8 0, .int .u8 0, .slice none 0 0, .int .i64 0, .bool false] 43)) w1.heap.size 0 0 0 0 (.slice none 0 0) 0 false ∧ Stp [] w [] (w1.alloc (.cells #[.int .i64 0, .int .u32 0, .int .u8 0, .int .u8 0, .slice none 0 0, .int .i64 0, .bool false] 43)) ∧ (∀ j x, L[j]? = some x → (w1.alloc (.cells #[.int .i64 0, .int .u32 0, .int .u8 0, .int .u8 0, .slice none 0 0, .int .i64 0, .bool false] 43)).cell? ⟨gp, j, none⟩ = some (.string (st x))) ∧ (g0 < gp ∧ gp < w1.heap.size ∧ w1.heap.size < (w1.alloc (.cells #[.int .i64 0, .int .u32 0, .int .u8 0, .int .u8 0, .slice none 0 0, .int .i64 0, .bool false] 43)).heap.size)) :=
    ⟨H1.out.1.other (Stp.alloc [] _ _) (by simp), heap_alloc_new w1 _, H1.out.2.1.trans (Stp.alloc [] _ _), fun j x hx => ((Stp.alloc [] w1 (.cells #[.int .i64 0, .int .u32 0, .int .u8 0, .int .u8 0, .slice none 0 0, .int .i64 0, .bool false] 43)).cell (a := ⟨gp, j, none⟩) H1.out.2.2.2.2 (by simp)).trans (H1.out.2.2.1 j x hx), H1.out.2.2.2.1, H1.out.2.2.2.2, by simp⟩
  generalize w1.alloc (.cells #[.int .i64 0, .int .u32 0, .int .u8 0, .int .u8 0, .slice none 0 0, .int .i64 0, .bool false] 43) = w2 at *
  generalize w1.heap.size = g1 at *
  have c0 := H2.out.2.1.c0
  have c1 := H2.out.2.1.c1
  have c2 := H2.out.2.1.c2
  have c3 := H2.out.2.1.c3
  have c4 := H2.out.2.1.c4
  have c5 := H2.out.2.1.c5
  have c6 := H2.out.2.1.c6
  clear H1
  go_upto_region 4 with fail
  have H3 : Aside (T3 w (w2.alloc (.cells #[.int .i64 0, .int .u32 0, .int .u8 0, .int .u8 0, .slice none 0 0, .int .i64 0, .bool false] 43)) g0 g1 w2.heap.size gp L 0 0 0 0 (.slice none 0 0) 0 false) :=
    ⟨H2.out.1.other (Stp.alloc [] _ _) (by simp), H2.out.2.1.other (Stp.alloc [] _ _) (by simp), heap_alloc_new w2 _, H2.out.2.2.1.trans (Stp.alloc [] _ _), fun j x hx => ((Stp.alloc [] w2 (.cells #[.int .i64 0, .int .u32 0, .int .u8 0, .int .u8 0, .slice none 0 0, .int .i64 0, .bool false] 43)).cell (a := ⟨gp, j, none⟩) (Nat.lt_trans H2.out.2.2.2.2.2.1 H2.out.2.2.2.2.2.2) (by simp)).trans (H2.out.2.2.2.1 j x hx), by rw [HG.out]; exact Nat.le_refl _, H2.out.2.2.2.2.1, H2.out.2.2.2.2.2.1, H2.out.2.2.2.2.2.2, by have := H2.out.2.2.2.2; simp; omega⟩
  generalize w2.alloc (.cells #[.int .i64 0, .int .u32 0, .int .u8 0, .int .u8 0, .slice none 0 0, .int .i64 0, .bool false] 43) = w3 at *
  generalize w2.heap.size = g2 at *
  clear H2 c0 c1 c2 c3 c4 c5 c6
  have hLL : L = a :: b :: R := HL.out.1.trans HLL.out
  have d0 : w3.cell? ⟨gp, 0, none⟩ = some (.string (st a)) := H3.out.p 0 a (by rw [hLL]; rfl)
  have d1 : w3.cell? ⟨gp, 1, none⟩ = some (.string (st b)) := H3.out.p 1 b (by rw [hLL]; rfl)
  have hpR : p = R.length + 2 := by rw [HL.out.2, hLL]; rfl
  have hp2 : ¬ (p : Int) < 2 := by omega
  have hp0 : (0 : Int) < (p : Int) := by omega
  have hp1 : (1 : Int) < (p : Int) := by omega
  have HR := Lib.hid (And.intro hLL hpR)
  clear hLL hpR
  obtain ⟨q, hq⟩ : ∃ q, p = q + 1 := ⟨p - 1, by have := HR.out.2; omega⟩
  obtain ⟨z, hz⟩ : ∃ z, L[q]? = some z := ⟨L[q]'(by have := HL.out.2; omega), List.getElem?_eq_getElem _⟩
  have hzl : z.length ≤ 2000 := by have h1 := spl_mem_len 32 s z (by rw [← HL.out.1]; exact List.mem_of_getElem? hz); omega
  have KN := Lib.hid (fun W => rnum18_run z (by omega) W)
  obtain ⟨nz, hnz⟩ : ∃ nz, nz = rz (rnum 10 18 z) := ⟨_, rfl⟩
  rw [← hnz] at KN
  have HN := Lib.hid (And.intro hz (And.intro hnz hq))
  have hsub : IntKind.i64.wrap ((p : Int) - 1) = (q : Int) := by rw [IntKind.wrap_i64]; have := hcm; simp [maxLen] at this; omega
  have hq0 : (0 : Int) ≤ (q : Int) := by omega
  have hqp : (q : Int) < (p : Int) := by omega
  clear hz hnz hq hzl
  have k0 := H3.out.e.c6
  have k1 := H3.out.e.fz 6
  go_upto_region 13 with fail
  have H4 : Aside (T3 w (w3.setCell ⟨g1, 6, none⟩ (.bool true)) g0 g1 g2 gp L 0 0 0 0 (.slice none 0 0) 0 true) := H3.out.act (stp_one _ _ _ _) (H3.out.e.setO true)
  generalize w3.setCell ⟨g1, 6, none⟩ (.bool true) = w4 at *
  clear H3 k0 k1 d0 d1
  have d2 : w4.cell? ⟨gp, q, none⟩ = some (.string (st z)) := H4.out.p q z HN.out.1
  have d0 : w4.cell? ⟨gp, 0, none⟩ = some (.string (st a)) := H4.out.p 0 a (by rw [HR.out.1]; rfl)
  go_wp2_with fail
  refine (KN.out _).mono ?_
  rintro _ w4 ⟨rfl, rfl⟩
  clear KN d2
  have hpe : ((p : Int) != 4) = false := by
    have h1 := HR.out.2
    rw [HXhR.out] at h1
    have h2 : p = 4 := h1
    rw [h2]
    rfl
  have hp2' : (2 : Int) < (p : Int) := by have h1 := HR.out.2; rw [HXhR.out] at h1; have h2 : p = 4 := h1; omega
  have hcl : c.length ≤ 2000 := by have h1 := spl_mem_len 32 s c (by rw [← HL.out.1, HR.out.1, HXhR.out]; simp); omega
  have KB := Lib.hid (fun W => by have h := rbytes_run c (by omega) W; rw [HXhu.out] at h; exact h)
  clear hcl
  go_upto_region 29 with fail
  clear d0
  have k0 := H4.out.e.c0
  have k1 := H4.out.e.fz 0
  go_upto_region 30 with fail
  have H5 : Aside (T3 w (w4.setCell ⟨g1, 0, none⟩ (.int .i64 2)) g0 g1 g2 gp L 2 0 0 0 (.slice none 0 0) 0 true) := H4.out.act (stp_one _ _ _ _) (H4.out.e.setK 2)
  generalize w4.setCell ⟨g1, 0, none⟩ (.int .i64 2) = w5 at *
  clear H4 k0 k1
  have d3 : w5.cell? ⟨gp, 2, none⟩ = some (.string (st c)) := H5.out.p 2 c (by rw [HR.out.1, HXhR.out]; rfl)
  go_wp2_with fail
  refine (KB.out _).mono ?_
  rintro _ w6 ⟨s6, ab, cb, rfl, hb1, hb2, hb3, hb4⟩
  have H6 : Aside (T3 w w6 g0 g1 g2 gp L 2 0 0 0 (.slice none 0 0) 0 true) := H5.out.stays s6
  have HB : Aside (Bts w6 ab D ∧ D.length ≤ cb ∧ (ab = none → cb = 0) ∧ ∀ ad, ab = some ad → g2 < ad.block) := ⟨hb1, hb2, hb3, fun ad e => Nat.lt_of_lt_of_le H5.out.z.lt (hb4 ad e)⟩
  have k0 := H6.out.e.c4
  have k1 := H6.out.e.fz 4
  clear hb1 hb2 hb3 hb4 s6 H5 d3 KB
  go_upto_region 38 with fail
  have H7 : Aside (T3 w (w6.setCell ⟨g1, 4, none⟩ (.slice ab D.length cb)) g0 g1 g2 gp L 2 0 0 0 (.slice ab D.length cb) 0 true ∧ Bts (w6.setCell ⟨g1, 4, none⟩ (.slice ab D.length cb)) ab D) :=
    ⟨H6.out.act (stp_one _ _ _ _) (H6.out.e.setD _), HB.out.1.other (stp_one w6 g1 4 (.slice ab D.length cb)) (fun _ ad e => by have := HB.out.2.2.2 ad e; have := H6.out.lo; simp; omega)⟩
  generalize w6.setCell ⟨g1, 4, none⟩ (.slice ab D.length cb) = w7 at *
  clear H6 k0 k1
  have hzb : z = d := by
    have h1 := HN.out.1
    have h2 := HN.out.2.2
    have h3 := HR.out.2
    rw [HR.out.1, HXhR.out] at h1
    rw [HXhR.out] at h3
    have h4 : q = 3 := by simp at h3; omega
    rw [h4] at h1
    simpa using h1.symm
  obtain rfl : nz = -1 := by rw [HN.out.2.1, hzb, HXhv.out]; rfl
  clear hzb
  have H8 : Aside (T3 w w7 g0 g1 g2 gp L 2 0 0 0 (.slice ab D.length cb) 0 true) := H7.out.1
  go_upto_region 39 with fail
  have c0 := H8.out.r.c0
  have c1 := H8.out.r.c1
  have c2 := H8.out.r.c2
  have c3 := H8.out.r.c3
  have c4 := H8.out.r.c4
  have c5 := H8.out.r.c5
  have c6 := H8.out.r.c6
  have e0 := H8.out.z.c0
  have e1 := H8.out.z.c1
  have e2 := H8.out.z.c2
  have e3 := H8.out.z.c3
  have e4 := H8.out.z.c4
  have e5 := H8.out.z.c5
  have e6 := H8.out.z.c6
  have z0 := H8.out.r.fz 0
  have z1 := H8.out.r.fz 1
  have z2 := H8.out.r.fz 2
  have z3 := H8.out.r.fz 3
  have z4 := H8.out.r.fz 4
  have z5 := H8.out.r.fz 5
  have z6 := H8.out.r.fz 6
  go_wp2
  refine bodyPost_ret (res_eff2 rfl _ rfl (H8.out.r.set7 0 0 0 0 (.slice none 0 0) 0 false)) rfl ?_
  refine ⟨(H8.out.stp.fresh (stp7 _ _ _ _ _ _ _ _ _) (by have := H8.out.lo; simp; omega)).none, ?_⟩
  rw [HRF.out]
  rfl

set_option maxHeartbeats 2000000 in
set_option maxRecDepth 100000 in
theorem rd_wrote2yt (s : List UInt8) (hs : s.length ≤ 2000) (w : World) (h1 : s ≠ [101, 110, 100]) (h2 : s ≠ [104, 105, 115, 116, 111, 114, 121]) (a b : List UInt8) (R : List (List UInt8)) (hL : spl 32 s = a :: b :: R) (ha : a = [119, 114, 111, 116, 101]) (hb : b = [111, 107]) (c d : List UInt8) (hR : R = [c, d]) (D : List UInt8) (hu : unhex c = some D) (v : Nat) (hv : rnum 10 18 d = some v) : Calls Tryz.prog 24 #[.string (st s)] w (EffTo (rf s) w) := by
  have HRF : Hid (rf s = some (2, { E0 with d := D, n := v, ok := true })) := Lib.hid (by
    unfold rf
    rw [if_neg h1, if_neg h2, hL]
    subst hR
    simp [rfL, ha, hb, tks, tk, hu, num_rnum, hv])
  have q1 : ((st s).toList == [101, 110, 100]) = false := by rw [st_toList]; exact beq_eq_false_iff_ne.2 h1
  have q2 : ((st s).toList == [104, 105, 115, 116, 111, 114, 121]) = false := by rw [st_toList]; exact beq_eq_false_iff_ne.2 h2
  have qagot : ((st a).toList == [103, 111, 116]) = false := by rw [st_toList, ha]; rfl
  have qawas : ((st a).toList == [119, 97, 115]) = false := by rw [st_toList, ha]; rfl
  have qawrote : ((st a).toList == [119, 114, 111, 116, 101]) = true := by rw [st_toList, ha]; rfl
  have qaread : ((st a).toList == [114, 101, 97, 100]) = false := by rw [st_toList, ha]; rfl
  have qasignal : ((st a).toList == [115, 105, 103, 110, 97, 108]) = false := by rw [st_toList, ha]; rfl
  have qb1 : ((st b).toList == [111, 107]) = true := by rw [st_toList, hb]; rfl
  have HXhR := Lib.hid hR
  have HXhu := Lib.hid hu
  have HXhv := Lib.hid hv
  clear hR hu hv
  have HLL := Lib.hid hL
  clear hL h1 h2 ha hb
  have KC := Lib.hid (fun W => rcut_run s 32 (by omega) W)
  have cv : ((32 : UInt8).toNat : Int) = 32 := rfl
  rw [cv] at KC
  clear cv
  go_enter Tryz.func24, Tryz.ntmps24
  have H0 : Aside (EAt (w.alloc (.cells #[.int .i64 0, .int .u32 0, .int .u8 0, .int .u8 0, .slice none 0 0, .int .i64 0, .bool false] 43)) w.heap.size 0 0 0 0 (.slice none 0 0) 0 false ∧ Stp [] w [] (w.alloc (.cells #[.int .i64 0, .int .u32 0, .int .u8 0, .int .u8 0, .slice none 0 0, .int .i64 0, .bool false] 43)) ∧ (w.alloc (.cells #[.int .i64 0, .int .u32 0, .int .u8 0, .int .u8 0, .slice none 0 0, .int .i64 0, .bool false] 43)).heap.size = w.heap.size + 1) := ⟨heap_alloc_new w _, Stp.alloc [] w _, by simp⟩
  obtain ⟨g0, hg0⟩ : ∃ g0, g0 = w.heap.size := ⟨_, rfl⟩
  rw [← hg0] at H0
  go_upto_region 1 with fail
  rw [← hg0]
  have HG := Lib.hid hg0
  generalize w.alloc (.cells #[.int .i64 0, .int .u32 0, .int .u8 0, .int .u8 0, .slice none 0 0, .int .i64 0, .bool false] 43) = w0 at *
  clear hg0
  go_wp2_with fail
  refine (KC.out _).mono ?_
  rintro _ w1 ⟨v, rfl, ho, s1⟩
  obtain ⟨a, cap, rfl, hno, hpc, hcm, hcell⟩ := ho.form
  rcases a with _ | ad
  · exact absurd (hno rfl).2 (spl_ne 32 s)
  obtain ⟨gp, rfl, hb1, hb2, hpcs⟩ := hcell ad rfl
  obtain ⟨L, hL⟩ : ∃ L, L = spl 32 s := ⟨_, rfl⟩
  obtain ⟨p, hp⟩ : ∃ p, p = L.length := ⟨_, rfl⟩
  rw [← hL] at hpc hpcs ⊢
  rw [← hp] at hpc ⊢
  have HL := Lib.hid (And.intro hL hp)
  have H1 : Aside (EAt w1 g0 0 0 0 0 (.slice none 0 0) 0 false ∧ Stp [] w [] w1 ∧ (∀ j x, L[j]? = some x → w1.cell? ⟨gp, j, none⟩ = some (.string (st x))) ∧ g0 < gp ∧ gp < w1.heap.size) := ⟨H0.out.1.other s1 (by simp), H0.out.2.1.trans s1, hpcs, by have := H0.out.2.2; omega, hb2⟩
  clear H0 s1 ho hno hpcs hcell hb1 hb2 hL hp KC
  go_upto_region 3 with fail
  have H2 : Aside (EAt (w1.alloc (.cells #[.int .i64 0, .int .u32 0, .int .u8 0, .int .u8 0, .slice none 0 0, .int .i64 0, .bool false] 43)) g0 0 0 0 0 (.slice none 0 0) 0 false ∧ EAt (w1.alloc (.cells #[.int .i64 0, .int .u32 0, .int .u8 0, .int .u8 0, .slice none 0 0, .int .i64 0, .bool false] 43)) w1.heap.size 0 0 0 0 (.slice none 0 0) 0 false ∧ Stp [] w [] (w1.alloc (.cells #[.int .i64 0, .int .u32 0, .int .u8 0, .int .u8 0, .slice none 0 0, .int .i64 0, .bool false] 43)) ∧ (∀ j x, L[j]? = some x → (w1.alloc (.cells #[.int .i64 0, .int .u32 0, .int .u8 0, .int .u8 0, .slice none 0 0, .int .i64 0, .bool false] 43)).cell? ⟨gp, j, none⟩ = some (.string (st x))) ∧ (g0 < gp ∧ gp < w1.heap.size ∧ w1.heap.size < (w1.alloc (.cells #[.int .i64 0, .int .u32 0, .int .u8 0, .int .u8 0, .slice none 0 0, .int .i64 0, .bool false] 43)).heap.size)) :=
    ⟨H1.out.1.other (Stp.alloc [] _ _) (by simp), heap_alloc_new w1 _, H1.out.2.1.trans (Stp.alloc [] _ _), fun j x hx => ((Stp.alloc [] w1 (.cells #[.int .i64 0, .int .u32 0, .int .u8 0, .int .u8 0, .slice none 0 0, .int .i64 0, .bool false] 43)).cell (a := ⟨gp, j, none⟩) H1.out.2.2.2.2 (by simp)).trans (H1.out.2.2.1 j x hx), H1.out.2.2.2.1, H1.out.2.2.2.2, by simp⟩
  generalize w1.alloc (.cells #[.int .i64 0, .int .u32 0, .int .u8 0, .int .u8 0, .slice none 0 0, .int .i64 0, .bool false] 43) = w2 at *
  generalize w1.heap.size = g1 at *
  have c0 := H2.out.2.1.c0
  have c1 := H2.out.2.1.c1
  have c2 := H2.out.2.1.c2
  have c3 := H2.out.2.1.c3
  have c4 := H2.out.2.1.c4
  have c5 := H2.out.2.1.c5
  have c6 := H2.out.2.1.c6
  clear H1
  go_upto_region 4 with fail
  have H3 : Aside (T3 w (w2.alloc (.cells #[.int .i64 0, .int .u32 0, .int .u8 0, .int .u8 0, .slice none 0 0, .int .i64 0, .bool false] 43)) g0 g1 w2.heap.size gp L 0 0 0 0 (.slice none 0 0) 0 false) :=
    ⟨H2.out.1.other (Stp.alloc [] _ _) (by simp), H2.out.2.1.other (Stp.alloc [] _ _) (by simp), heap_alloc_new w2 _, H2.out.2.2.1.trans (Stp.alloc [] _ _), fun j x hx => ((Stp.alloc [] w2 (.cells #[.int .i64 0, .int .u32 0, .int .u8 0, .int .u8 0, .slice none 0 0, .int .i64 0, .bool false] 43)).cell (a := ⟨gp, j, none⟩) (Nat.lt_trans H2.out.2.2.2.2.2.1 H2.out.2.2.2.2.2.2) (by simp)).trans (H2.out.2.2.2.1 j x hx), by rw [HG.out]; exact Nat.le_refl _, H2.out.2.2.2.2.1, H2.out.2.2.2.2.2.1, H2.out.2.2.2.2.2.2, by have := H2.out.2.2.2.2; simp; omega⟩
  generalize w2.alloc (.cells #[.int .i64 0, .int .u32 0, .int .u8 0, .int .u8 0, .slice none 0 0, .int .i64 0, .bool false] 43) = w3 at *
  generalize w2.heap.size = g2 at *
  clear H2 c0 c1 c2 c3 c4 c5 c6
  have hLL : L = a :: b :: R := HL.out.1.trans HLL.out
  have d0 : w3.cell? ⟨gp, 0, none⟩ = some (.string (st a)) := H3.out.p 0 a (by rw [hLL]; rfl)
  have d1 : w3.cell? ⟨gp, 1, none⟩ = some (.string (st b)) := H3.out.p 1 b (by rw [hLL]; rfl)
  have hpR : p = R.length + 2 := by rw [HL.out.2, hLL]; rfl
  have hp2 : ¬ (p : Int) < 2 := by omega
  have hp0 : (0 : Int) < (p : Int) := by omega
  have hp1 : (1 : Int) < (p : Int) := by omega
  have HR := Lib.hid (And.intro hLL hpR)
  clear hLL hpR
  obtain ⟨q, hq⟩ : ∃ q, p = q + 1 := ⟨p - 1, by have := HR.out.2; omega⟩
  obtain ⟨z, hz⟩ : ∃ z, L[q]? = some z := ⟨L[q]'(by have := HL.out.2; omega), List.getElem?_eq_getElem _⟩
  have hzl : z.length ≤ 2000 := by have h1 := spl_mem_len 32 s z (by rw [← HL.out.1]; exact List.mem_of_getElem? hz); omega
  have KN := Lib.hid (fun W => rnum18_run z (by omega) W)
  obtain ⟨nz, hnz⟩ : ∃ nz, nz = rz (rnum 10 18 z) := ⟨_, rfl⟩
  rw [← hnz] at KN
  have HN := Lib.hid (And.intro hz (And.intro hnz hq))
  have hsub : IntKind.i64.wrap ((p : Int) - 1) = (q : Int) := by rw [IntKind.wrap_i64]; have := hcm; simp [maxLen] at this; omega
  have hq0 : (0 : Int) ≤ (q : Int) := by omega
  have hqp : (q : Int) < (p : Int) := by omega
  clear hz hnz hq hzl
  have k0 := H3.out.e.c6
  have k1 := H3.out.e.fz 6
  go_upto_region 13 with fail
  have H4 : Aside (T3 w (w3.setCell ⟨g1, 6, none⟩ (.bool true)) g0 g1 g2 gp L 0 0 0 0 (.slice none 0 0) 0 true) := H3.out.act (stp_one _ _ _ _) (H3.out.e.setO true)
  generalize w3.setCell ⟨g1, 6, none⟩ (.bool true) = w4 at *
  clear H3 k0 k1 d0 d1
  have d2 : w4.cell? ⟨gp, q, none⟩ = some (.string (st z)) := H4.out.p q z HN.out.1
  have d0 : w4.cell? ⟨gp, 0, none⟩ = some (.string (st a)) := H4.out.p 0 a (by rw [HR.out.1]; rfl)
  go_wp2_with fail
  refine (KN.out _).mono ?_
  rintro _ w4 ⟨rfl, rfl⟩
  clear KN d2
  have hpe : ((p : Int) != 4) = false := by
    have h1 := HR.out.2
    rw [HXhR.out] at h1
    have h2 : p = 4 := h1
    rw [h2]
    rfl
  have hp2' : (2 : Int) < (p : Int) := by have h1 := HR.out.2; rw [HXhR.out] at h1; have h2 : p = 4 := h1; omega
  have hcl : c.length ≤ 2000 := by have h1 := spl_mem_len 32 s c (by rw [← HL.out.1, HR.out.1, HXhR.out]; simp); omega
  have KB := Lib.hid (fun W => by have h := rbytes_run c (by omega) W; rw [HXhu.out] at h; exact h)
  clear hcl
  go_upto_region 29 with fail
  clear d0
  have k0 := H4.out.e.c0
  have k1 := H4.out.e.fz 0
  go_upto_region 30 with fail
  have H5 : Aside (T3 w (w4.setCell ⟨g1, 0, none⟩ (.int .i64 2)) g0 g1 g2 gp L 2 0 0 0 (.slice none 0 0) 0 true) := H4.out.act (stp_one _ _ _ _) (H4.out.e.setK 2)
  generalize w4.setCell ⟨g1, 0, none⟩ (.int .i64 2) = w5 at *
  clear H4 k0 k1
  have d3 : w5.cell? ⟨gp, 2, none⟩ = some (.string (st c)) := H5.out.p 2 c (by rw [HR.out.1, HXhR.out]; rfl)
  go_wp2_with fail
  refine (KB.out _).mono ?_
  rintro _ w6 ⟨s6, ab, cb, rfl, hb1, hb2, hb3, hb4⟩
  have H6 : Aside (T3 w w6 g0 g1 g2 gp L 2 0 0 0 (.slice none 0 0) 0 true) := H5.out.stays s6
  have HB : Aside (Bts w6 ab D ∧ D.length ≤ cb ∧ (ab = none → cb = 0) ∧ ∀ ad, ab = some ad → g2 < ad.block) := ⟨hb1, hb2, hb3, fun ad e => Nat.lt_of_lt_of_le H5.out.z.lt (hb4 ad e)⟩
  have k0 := H6.out.e.c4
  have k1 := H6.out.e.fz 4
  clear hb1 hb2 hb3 hb4 s6 H5 d3 KB
  go_upto_region 38 with fail
  have H7 : Aside (T3 w (w6.setCell ⟨g1, 4, none⟩ (.slice ab D.length cb)) g0 g1 g2 gp L 2 0 0 0 (.slice ab D.length cb) 0 true ∧ Bts (w6.setCell ⟨g1, 4, none⟩ (.slice ab D.length cb)) ab D) :=
    ⟨H6.out.act (stp_one _ _ _ _) (H6.out.e.setD _), HB.out.1.other (stp_one w6 g1 4 (.slice ab D.length cb)) (fun _ ad e => by have := HB.out.2.2.2 ad e; have := H6.out.lo; simp; omega)⟩
  generalize w6.setCell ⟨g1, 4, none⟩ (.slice ab D.length cb) = w7 at *
  clear H6 k0 k1
  have hzb : z = d := by
    have h1 := HN.out.1
    have h2 := HN.out.2.2
    have h3 := HR.out.2
    rw [HR.out.1, HXhR.out] at h1
    rw [HXhR.out] at h3
    have h4 : q = 3 := by simp at h3; omega
    rw [h4] at h1
    simpa using h1.symm
  obtain rfl : nz = (v : Int) := by rw [HN.out.2.1, hzb, HXhv.out]; rfl
  clear hzb
  have hn0 : ¬ (v : Int) < 0 := by omega
  have hn1 : decide ((v : Int) < 0) = false := decide_eq_false hn0
  have H8 : Aside (T3 w w7 g0 g1 g2 gp L 2 0 0 0 (.slice ab D.length cb) 0 true) := H7.out.1
  have HB8 : Aside (Bts w7 ab D) := H7.out.2
  clear H7
  go_upto_region 40 with fail
  have HB9 : Aside (Bts (w7.setCell ⟨g1, 5, none⟩ (.int .i64 (v : Int))) ab D) := HB8.out.other (stp_one w7 g1 5 (.int .i64 (v : Int))) (fun _ ad e => by have := HB.out.2.2.2 ad e; have := H8.out.lo; simp; omega)
  have k0 := H8.out.e.c5
  have k1 := H8.out.e.fz 5
  go_upto_region 41 with fail
  have H9 : Aside (T3 w (w7.setCell ⟨g1, 5, none⟩ (.int .i64 (v : Int))) g0 g1 g2 gp L 2 0 0 0 (.slice ab D.length cb) (v : Int) true) := H8.out.act (stp_one _ _ _ _) (H8.out.e.setN (v : Int))
  generalize w7.setCell ⟨g1, 5, none⟩ (.int .i64 (v : Int)) = w8 at *
  clear H8 k0 k1
  have c0 := H9.out.r.c0
  have c1 := H9.out.r.c1
  have c2 := H9.out.r.c2
  have c3 := H9.out.r.c3
  have c4 := H9.out.r.c4
  have c5 := H9.out.r.c5
  have c6 := H9.out.r.c6
  have e0 := H9.out.e.c0
  have e1 := H9.out.e.c1
  have e2 := H9.out.e.c2
  have e3 := H9.out.e.c3
  have e4 := H9.out.e.c4
  have e5 := H9.out.e.c5
  have e6 := H9.out.e.c6
  have z0 := H9.out.r.fz 0
  have z1 := H9.out.r.fz 1
  have z2 := H9.out.r.fz 2
  have z3 := H9.out.r.fz 3
  have z4 := H9.out.r.fz 4
  have z5 := H9.out.r.fz 5
  have z6 := H9.out.r.fz 6
  go_wp2
  refine bodyPost_ret (res_eff2 rfl _ rfl (H9.out.r.set7 2 0 0 0 (.slice ab D.length cb) (v : Int) true)) rfl ?_
  refine ⟨(H9.out.stp.fresh (stp7 _ _ _ _ _ _ _ _ _) (by have := H9.out.lo; simp; omega)).none, ?_⟩
  rw [HRF.out]
  exact ⟨_, rfl, ab, cb, rfl, HB9.out.other (stp7 _ _ _ _ _ _ _ _ _) (fun _ ad e => by have := HB.out.2.2.2 ad e; have := H9.out.lo; simp; omega), HB.out.2.1, HB.out.2.2.1, fun ad e => by have := HB.out.2.2.2 ad e; have := H9.out.lo; omega⟩

set_option maxHeartbeats 2000000 in
set_option maxRecDepth 100000 in
theorem rd_wrote2nf (s : List UInt8) (hs : s.length ≤ 2000) (w : World) (h1 : s ≠ [101, 110, 100]) (h2 : s ≠ [104, 105, 115, 116, 111, 114, 121]) (a b : List UInt8) (R : List (List UInt8)) (hL : spl 32 s = a :: b :: R) (ha : a = [119, 114, 111, 116, 101]) (hb : b = [102, 97, 105, 108]) (c d : List UInt8) (hR : R = [c, d]) (hu : unhex c = none) : Calls Tryz.prog 24 #[.string (st s)] w (EffTo (rf s) w) := by
  have HRF : Hid (rf s = none) := Lib.hid (by
    unfold rf
    rw [if_neg h1, if_neg h2, hL]
    subst hR
    simp [rfL, ha, hb, tks, tk, hu])
  have q1 : ((st s).toList == [101, 110, 100]) = false := by rw [st_toList]; exact beq_eq_false_iff_ne.2 h1
  have q2 : ((st s).toList == [104, 105, 115, 116, 111, 114, 121]) = false := by rw [st_toList]; exact beq_eq_false_iff_ne.2 h2
  have qagot : ((st a).toList == [103, 111, 116]) = false := by rw [st_toList, ha]; rfl
  have qawas : ((st a).toList == [119, 97, 115]) = false := by rw [st_toList, ha]; rfl
  have qawrote : ((st a).toList == [119, 114, 111, 116, 101]) = true := by rw [st_toList, ha]; rfl
  have qaread : ((st a).toList == [114, 101, 97, 100]) = false := by rw [st_toList, ha]; rfl
  have qasignal : ((st a).toList == [115, 105, 103, 110, 97, 108]) = false := by rw [st_toList, ha]; rfl
  have qb1 : ((st b).toList == [111, 107]) = false := by rw [st_toList, hb]; rfl
  have qb2 : ((st b).toList == [102, 97, 105, 108]) = true := by rw [st_toList, hb]; rfl
  have HXhR := Lib.hid hR
  have HXhu := Lib.hid hu
  clear hR hu
  have HLL := Lib.hid hL
  clear hL h1 h2 ha hb
  have KC := Lib.hid (fun W => rcut_run s 32 (by omega) W)
  have cv : ((32 : UInt8).toNat : Int) = 32 := rfl
  rw [cv] at KC
  clear cv
  go_enter Tryz.func24, Tryz.ntmps24
  have H0 : Aside (EAt (w.alloc (.cells #[.int .i64 0, .int .u32 0, .int .u8 0, .int .u8 0, .slice none 0 0, .int .i64 0, .bool false] 43)) w.heap.size 0 0 0 0 (.slice none 0 0) 0 false ∧ Stp [] w [] (w.alloc (.cells #[.int .i64 0, .int .u32 0, .int .u8 0, .int .u8 0, .slice none 0 0, .int .i64 0, .bool false] 43)) ∧ (w.alloc (.cells #[.int .i64 0, .int .u32 0, .int .u8 0, .int .u8 0, .slice none 0 0, .int .i64 0, .bool false] 43)).heap.size = w.heap.size + 1) := ⟨heap_alloc_new w _, Stp.alloc [] w _, by simp⟩
  obtain ⟨g0, hg0⟩ : ∃ g0, g0 = w.heap.size := ⟨_, rfl⟩
  rw [← hg0] at H0
  go_upto_region 1 with fail
  rw [← hg0]
  have HG := Lib.hid hg0
  generalize w.alloc (.cells #[.int .i64 0, .int .u32 0, .int .u8 0, .int .u8 0, .slice none 0 0, .int .i64 0, .bool false] 43) = w0 at *
  clear hg0
  go_wp2_with fail
  refine (KC.out _).mono ?_
  rintro _ w1 ⟨v, rfl, ho, s1⟩
  obtain ⟨a, cap, rfl, hno, hpc, hcm, hcell⟩ := ho.form
  rcases a with _ | ad
  · exact absurd (hno rfl).2 (spl_ne 32 s)
  obtain ⟨gp, rfl, hb1, hb2, hpcs⟩ := hcell ad rfl
  obtain ⟨L, hL⟩ : ∃ L, L = spl 32 s := ⟨_, rfl⟩
  obtain ⟨p, hp⟩ : ∃ p, p = L.length := ⟨_, rfl⟩
  rw [← hL] at hpc hpcs ⊢
  rw [← hp] at hpc ⊢
  have HL := Lib.hid (And.intro hL hp)
  have H1 : Aside (EAt w1 g0 0 0 0 0 (.slice none 0 0) 0 false ∧ Stp [] w [] w1 ∧ (∀ j x, L[j]? = some x → w1.cell? ⟨gp, j, none⟩ = some (.string (st x))) ∧ g0 < gp ∧ gp < w1.heap.size) := ⟨H0.out.1.other s1 (by simp), H0.out.2.1.trans s1, hpcs, by have := H0.out.2.2; omega, hb2⟩
  clear H0 s1 ho hno hpcs hcell hb1 hb2 hL hp KC
  go_upto_region 3 with fail
  have H2 : Aside (EAt (w1.alloc (.cells #[.int .i64 0, .int .u32 0, .int .u8 0, .int .u8 0, .slice none 0 0, .int .i64 0, .bool false] 43)) g0 0 0 0 0 (.slice none 0 0) 0 false ∧ EAt (w1.alloc (.cells #[.int .i64 0, .int .u32 0, .int .u8 0, .int .u8 0, .slice none 0 0, .int .i64 0, .bool false] 43)) w1.heap.size 0 0 0 0 (.slice none 0 0) 0 false ∧ Stp [] w [] (w1.alloc (.cells #[.int .i64 0, .int .u32 0, .int .u8 0, .int .u8 0, .slice none 0 0, .int .i64 0, .bool false] 43)) ∧ (∀ j x, L[j]? = some x → (w1.alloc (.cells #[.int .i64 0, .int .u32 0, .int .u8 0, .int .u8 0, .slice none 0 0, .int .i64 0, .bool false] 43)).cell? ⟨gp, j, none⟩ = some (.string (st x))) ∧ (g0 < gp ∧ gp < w1.heap.size ∧ w1.heap.size < (w1.alloc (.cells #[.int .i64 0, .int .u32 0, .int .u8 0, .int .u8 0, .slice none 0 0, .int .i64 0, .bool false] 43)).heap.size)) :=
    ⟨H1.out.1.other (Stp.alloc [] _ _) (by simp), heap_alloc_new w1 _, H1.out.2.1.trans (Stp.alloc [] _ _), fun j x hx => ((Stp.alloc [] w1 (.cells #[.int .i64 0, .int .u32 0, .int .u8 0, .int .u8 0, .slice none 0 0, .int .i64 0, .bool false] 43)).cell (a := ⟨gp, j, none⟩) H1.out.2.2.2.2 (by simp)).trans (H1.out.2.2.1 j x hx), H1.out.2.2.2.1, H1.out.2.2.2.2, by simp⟩
  generalize w1.alloc (.cells #[.int .i64 0, .int .u32 0, .int .u8 0, .int .u8 0, .slice none 0 0, .int .i64 0, .bool false] 43) = w2 at *
  generalize w1.heap.size = g1 at *
  have c0 := H2.out.2.1.c0
  have c1 := H2.out.2.1.c1
  have c2 := H2.out.2.1.c2
  have c3 := H2.out.2.1.c3
  have c4 := H2.out.2.1.c4
  have c5 := H2.out.2.1.c5
  have c6 := H2.out.2.1.c6
  clear H1
  go_upto_region 4 with fail
  have H3 : Aside (T3 w (w2.alloc (.cells #[.int .i64 0, .int .u32 0, .int .u8 0, .int .u8 0, .slice none 0 0, .int .i64 0, .bool false] 43)) g0 g1 w2.heap.size gp L 0 0 0 0 (.slice none 0 0) 0 false) :=
    ⟨H2.out.1.other (Stp.alloc [] _ _) (by simp), H2.out.2.1.other (Stp.alloc [] _ _) (by simp), heap_alloc_new w2 _, H2.out.2.2.1.trans (Stp.alloc [] _ _), fun j x hx => ((Stp.alloc [] w2 (.cells #[.int .i64 0, .int .u32 0, .int .u8 0, .int .u8 0, .slice none 0 0, .int .i64 0, .bool false] 43)).cell (a := ⟨gp, j, none⟩) (Nat.lt_trans H2.out.2.2.2.2.2.1 H2.out.2.2.2.2.2.2) (by simp)).trans (H2.out.2.2.2.1 j x hx), by rw [HG.out]; exact Nat.le_refl _, H2.out.2.2.2.2.1, H2.out.2.2.2.2.2.1, H2.out.2.2.2.2.2.2, by have := H2.out.2.2.2.2; simp; omega⟩
  generalize w2.alloc (.cells #[.int .i64 0, .int .u32 0, .int .u8 0, .int .u8 0, .slice none 0 0, .int .i64 0, .bool false] 43) = w3 at *
  generalize w2.heap.size = g2 at *
  clear H2 c0 c1 c2 c3 c4 c5 c6
  have hLL : L = a :: b :: R := HL.out.1.trans HLL.out
  have d0 : w3.cell? ⟨gp, 0, none⟩ = some (.string (st a)) := H3.out.p 0 a (by rw [hLL]; rfl)
  have d1 : w3.cell? ⟨gp, 1, none⟩ = some (.string (st b)) := H3.out.p 1 b (by rw [hLL]; rfl)
  have hpR : p = R.length + 2 := by rw [HL.out.2, hLL]; rfl
  have hp2 : ¬ (p : Int) < 2 := by omega
  have hp0 : (0 : Int) < (p : Int) := by omega
  have hp1 : (1 : Int) < (p : Int) := by omega
  have HR := Lib.hid (And.intro hLL hpR)
  clear hLL hpR
  obtain ⟨q, hq⟩ : ∃ q, p = q + 1 := ⟨p - 1, by have := HR.out.2; omega⟩
  obtain ⟨z, hz⟩ : ∃ z, L[q]? = some z := ⟨L[q]'(by have := HL.out.2; omega), List.getElem?_eq_getElem _⟩
  have hzl : z.length ≤ 2000 := by have h1 := spl_mem_len 32 s z (by rw [← HL.out.1]; exact List.mem_of_getElem? hz); omega
  have KN := Lib.hid (fun W => rnum18_run z (by omega) W)
  obtain ⟨nz, hnz⟩ : ∃ nz, nz = rz (rnum 10 18 z) := ⟨_, rfl⟩
  rw [← hnz] at KN
  have HN := Lib.hid (And.intro hz (And.intro hnz hq))
  have hsub : IntKind.i64.wrap ((p : Int) - 1) = (q : Int) := by rw [IntKind.wrap_i64]; have := hcm; simp [maxLen] at this; omega
  have hq0 : (0 : Int) ≤ (q : Int) := by omega
  have hqp : (q : Int) < (p : Int) := by omega
  clear hz hnz hq hzl
  have k0 := H3.out.e.c6
  have k1 := H3.out.e.fz 6
  go_upto_region 13 with fail
  have H4 : Aside (T3 w (w3.setCell ⟨g1, 6, none⟩ (.bool false)) g0 g1 g2 gp L 0 0 0 0 (.slice none 0 0) 0 false) := H3.out.act (stp_one _ _ _ _) (H3.out.e.setO false)
  generalize w3.setCell ⟨g1, 6, none⟩ (.bool false) = w4 at *
  clear H3 k0 k1 d0 d1
  have d2 : w4.cell? ⟨gp, q, none⟩ = some (.string (st z)) := H4.out.p q z HN.out.1
  have d0 : w4.cell? ⟨gp, 0, none⟩ = some (.string (st a)) := H4.out.p 0 a (by rw [HR.out.1]; rfl)
  go_wp2_with fail
  refine (KN.out _).mono ?_
  rintro _ w4 ⟨rfl, rfl⟩
  clear KN d2
  have hpe : ((p : Int) != 4) = false := by
    have h1 := HR.out.2
    rw [HXhR.out] at h1
    have h2 : p = 4 := h1
    rw [h2]
    rfl
  have hp2' : (2 : Int) < (p : Int) := by have h1 := HR.out.2; rw [HXhR.out] at h1; have h2 : p = 4 := h1; omega
  have hcl : c.length ≤ 2000 := by have h1 := spl_mem_len 32 s c (by rw [← HL.out.1, HR.out.1, HXhR.out]; simp); omega
  have KB := Lib.hid (fun W => by have h := rbytes_run c (by omega) W; rw [HXhu.out] at h; exact h)
  clear hcl
  go_upto_region 29 with fail
  clear d0
  have k0 := H4.out.e.c0
  have k1 := H4.out.e.fz 0
  go_upto_region 30 with fail
  have H5 : Aside (T3 w (w4.setCell ⟨g1, 0, none⟩ (.int .i64 2)) g0 g1 g2 gp L 2 0 0 0 (.slice none 0 0) 0 false) := H4.out.act (stp_one _ _ _ _) (H4.out.e.setK 2)
  generalize w4.setCell ⟨g1, 0, none⟩ (.int .i64 2) = w5 at *
  clear H4 k0 k1
  have d3 : w5.cell? ⟨gp, 2, none⟩ = some (.string (st c)) := H5.out.p 2 c (by rw [HR.out.1, HXhR.out]; rfl)
  go_wp2_with fail
  refine (KB.out _).mono ?_
  rintro _ w6 ⟨s6, rfl⟩
  have H6 : Aside (T3 w w6 g0 g1 g2 gp L 2 0 0 0 (.slice none 0 0) 0 false) := H5.out.stays s6
  have k0 := H6.out.e.c4
  have k1 := H6.out.e.fz 4
  clear s6 H5 d3 KB
  go_upto_region 38 with fail
  have H7 : Aside (T3 w (w6.setCell ⟨g1, 4, none⟩ (.slice none 0 0)) g0 g1 g2 gp L 2 0 0 0 (.slice none 0 0) 0 false) := H6.out.act (stp_one _ _ _ _) (H6.out.e.setD _)
  generalize w6.setCell ⟨g1, 4, none⟩ (.slice none 0 0) = w7 at *
  clear H6 k0 k1
  go_upto_region 39 with fail
  have c0 := H7.out.r.c0
  have c1 := H7.out.r.c1
  have c2 := H7.out.r.c2
  have c3 := H7.out.r.c3
  have c4 := H7.out.r.c4
  have c5 := H7.out.r.c5
  have c6 := H7.out.r.c6
  have e0 := H7.out.z.c0
  have e1 := H7.out.z.c1
  have e2 := H7.out.z.c2
  have e3 := H7.out.z.c3
  have e4 := H7.out.z.c4
  have e5 := H7.out.z.c5
  have e6 := H7.out.z.c6
  have z0 := H7.out.r.fz 0
  have z1 := H7.out.r.fz 1
  have z2 := H7.out.r.fz 2
  have z3 := H7.out.r.fz 3
  have z4 := H7.out.r.fz 4
  have z5 := H7.out.r.fz 5
  have z6 := H7.out.r.fz 6
  go_wp2
  refine bodyPost_ret (res_eff2 rfl _ rfl (H7.out.r.set7 0 0 0 0 (.slice none 0 0) 0 false)) rfl ?_
  refine ⟨(H7.out.stp.fresh (stp7 _ _ _ _ _ _ _ _ _) (by have := H7.out.lo; simp; omega)).none, ?_⟩
  rw [HRF.out]
  rfl

set_option maxHeartbeats 2000000 in
set_option maxRecDepth 100000 in
theorem rd_wrote2mf (s : List UInt8) (hs : s.length ≤ 2000) (w : World) (h1 : s ≠ [101, 110, 100]) (h2 : s ≠ [104, 105, 115, 116, 111, 114, 121]) (a b : List UInt8) (R : List (List UInt8)) (hL : spl 32 s = a :: b :: R) (ha : a = [119, 114, 111, 116, 101]) (hb : b = [102, 97, 105, 108]) (c d : List UInt8) (hR : R = [c, d]) (D : List UInt8) (hu : unhex c = some D) (hv : rnum 10 18 d = none) : Calls Tryz.prog 24 #[.string (st s)] w (EffTo (rf s) w) := by
  have HRF : Hid (rf s = none) := Lib.hid (by
    unfold rf
    rw [if_neg h1, if_neg h2, hL]
    subst hR
    simp [rfL, ha, hb, tks, tk, hu, num_rnum, hv])
  have q1 : ((st s).toList == [101, 110, 100]) = false := by rw [st_toList]; exact beq_eq_false_iff_ne.2 h1
  have q2 : ((st s).toList == [104, 105, 115, 116, 111, 114, 121]) = false := by rw [st_toList]; exact beq_eq_false_iff_ne.2 h2
  have qagot : ((st a).toList == [103, 111, 116]) = false := by rw [st_toList, ha]; rfl
  have qawas : ((st a).toList == [119, 97, 115]) = false := by rw [st_toList, ha]; rfl
  have qawrote : ((st a).toList == [119, 114, 111, 116, 101]) = true := by rw [st_toList, ha]; rfl
  have qaread : ((st a).toList == [114, 101, 97, 100]) = false := by rw [st_toList, ha]; rfl
  have qasignal : ((st a).toList == [115, 105, 103, 110, 97, 108]) = false := by rw [st_toList, ha]; rfl
  have qb1 : ((st b).toList == [111, 107]) = false := by rw [st_toList, hb]; rfl
  have qb2 : ((st b).toList == [102, 97, 105, 108]) = true := by rw [st_toList, hb]; rfl
  have HXhR := Lib.hid hR
  have HXhu := Lib.hid hu
  have HXhv := Lib.hid hv
  clear hR hu hv
  have HLL := Lib.hid hL
  clear hL h1 h2 ha hb
  have KC := Lib.hid (fun W => rcut_run s 32 (by omega) W)
  have cv : ((32 : UInt8).toNat : Int) = 32 := rfl
  rw [cv] at KC
  clear cv
  go_enter Tryz.func24, Tryz.ntmps24
  have H0 : Aside (EAt (w.alloc (.cells #[.int .i64 0, .int .u32 0, .int .u8 0, .int .u8 0, .slice none 0 0, .int .i64 0, .bool false] 43)) w.heap.size 0 0 0 0 (.slice none 0 0) 0 false ∧ Stp [] w [] (w.alloc (.cells #[.int .i64 0, .int .u32 0, .int .u8 0, .int .u8 0, .slice none 0 0, .int .i64 0, .bool false] 43)) ∧ (w.alloc (.cells #[.int .i64 0, .int .u32 0, .int .u8 0, .int .u8 0, .slice none 0 0, .int .i64 0, .bool false] 43)).heap.size = w.heap.size + 1) := ⟨heap_alloc_new w _, Stp.alloc [] w _, by simp⟩
  obtain ⟨g0, hg0⟩ : ∃ g0, g0 = w.heap.size := ⟨_, rfl⟩
  rw [← hg0] at H0
  go_upto_region 1 with fail
  rw [← hg0]
  have HG := Lib.hid hg0
  generalize w.alloc (.cells #[.int .i64 0, .int .u32 0, .int .u8 0, .int .u8 0, .slice none 0 0, .int .i64 0, .bool false] 43) = w0 at *
  clear hg0
  go_wp2_with fail
  refine (KC.out _).mono ?_
  rintro _ w1 ⟨v, rfl, ho, s1⟩
  obtain ⟨a, cap, rfl, hno, hpc, hcm, hcell⟩ := ho.form
  rcases a with _ | ad
  · exact absurd (hno rfl).2 (spl_ne 32 s)
  obtain ⟨gp, rfl, hb1, hb2, hpcs⟩ := hcell ad rfl
  obtain ⟨L, hL⟩ : ∃ L, L = spl 32 s := ⟨_, rfl⟩
  obtain ⟨p, hp⟩ : ∃ p, p = L.length := ⟨_, rfl⟩
  rw [← hL] at hpc hpcs ⊢
  rw [← hp] at hpc ⊢
  have HL := Lib.hid (And.intro hL hp)
  have H1 : Aside (EAt w1 g0 0 0 0 0 (.slice none 0 0) 0 false ∧ Stp [] w [] w1 ∧ (∀ j x, L[j]? = some x → w1.cell? ⟨gp, j, none⟩ = some (.string (st x))) ∧ g0 < gp ∧ gp < w1.heap.size) := ⟨H0.out.1.other s1 (by simp), H0.out.2.1.trans s1, hpcs, by have := H0.out.2.2; omega, hb2⟩
  clear H0 s1 ho hno hpcs hcell hb1 hb2 hL hp KC
  go_upto_region 3 with fail
  have H2 : Aside (EAt (w1.alloc (.cells #[.int .i64 0, .int .u32 0, .int .u8 0, .int .u8 0, .slice none 0 0, .int .i64 0, .bool false] 43)) g0 0 0 0 0 (.slice none 0 0) 0 false ∧ EAt (w1.alloc (.cells #[.int .i64 0, .int .u32 0, .int .u8 0, .int .u8 0, .slice none 0 0, .int .i64 0, .bool false] 43)) w1.heap.size 0 0 0 0 (.slice none 0 0) 0 false ∧ Stp [] w [] (w1.alloc (.cells #[.int .i64 0, .int .u32 0, .int .u8 0, .int .u8 0, .slice none 0 0, .int .i64 0, .bool false] 43)) ∧ (∀ j x, L[j]? = some x → (w1.alloc (.cells #[.int .i64 0, .int .u32 0, .int .u8 0, .int .u8 0, .slice none 0 0, .int .i64 0, .bool false] 43)).cell? ⟨gp, j, none⟩ = some (.string (st x))) ∧ (g0 < gp ∧ gp < w1.heap.size ∧ w1.heap.size < (w1.alloc (.cells #[.int .i64 0, .int .u32 0, .int .u8 0, .int .u8 0, .slice none 0 0, .int .i64 0, .bool false] 43)).heap.size)) :=
    ⟨H1.out.1.other (Stp.alloc [] _ _) (by simp), heap_alloc_new w1 _, H1.out.2.1.trans (Stp.alloc [] _ _), fun j x hx => ((Stp.alloc [] w1 (.cells #[.int .i64 0, .int .u32 0, .int .u8 0, .int .u8 0, .slice none 0 0, .int .i64 0, .bool false] 43)).cell (a := ⟨gp, j, none⟩) H1.out.2.2.2.2 (by simp)).trans (H1.out.2.2.1 j x hx), H1.out.2.2.2.1, H1.out.2.2.2.2, by simp⟩
  generalize w1.alloc (.cells #[.int .i64 0, .int .u32 0, .int .u8 0, .int .u8 0, .slice none 0 0, .int .i64 0, .bool false] 43) = w2 at *
  generalize w1.heap.size = g1 at *
  have c0 := H2.out.2.1.c0
  have c1 := H2.out.2.1.c1
  have c2 := H2.out.2.1.c2
  have c3 := H2.out.2.1.c3
  have c4 := H2.out.2.1.c4
  have c5 := H2.out.2.1.c5
  have c6 := H2.out.2.1.c6
  clear H1
  go_upto_region 4 with fail
  have H3 : Aside (T3 w (w2.alloc (.cells #[.int .i64 0, .int .u32 0, .int .u8 0, .int .u8 0, .slice none 0 0, .int .i64 0, .bool false] 43)) g0 g1 w2.heap.size gp L 0 0 0 0 (.slice none 0 0) 0 false) :=
    ⟨H2.out.1.other (Stp.alloc [] _ _) (by simp), H2.out.2.1.other (Stp.alloc [] _ _) (by simp), heap_alloc_new w2 _, H2.out.2.2.1.trans (Stp.alloc [] _ _), fun j x hx => ((Stp.alloc [] w2 (.cells #[.int .i64 0, .int .u32 0, .int .u8 0, .int .u8 0, .slice none 0 0, .int .i64 0, .bool false] 43)).cell (a := ⟨gp, j, none⟩) (Nat.lt_trans H2.out.2.2.2.2.2.1 H2.out.2.2.2.2.2.2) (by simp)).trans (H2.out.2.2.2.1 j x hx), by rw [HG.out]; exact Nat.le_refl _, H2.out.2.2.2.2.1, H2.out.2.2.2.2.2.1, H2.out.2.2.2.2.2.2, by have := H2.out.2.2.2.2; simp; omega⟩
  generalize w2.alloc (.cells #[.int .i64 0, .int .u32 0, .int .u8 0, .int .u8 0, .slice none 0 0, .int .i64 0, .bool false] 43) = w3 at *
  generalize w2.heap.size = g2 at *
  clear H2 c0 c1 c2 c3 c4 c5 c6
  have hLL : L = a :: b :: R := HL.out.1.trans HLL.out
  have d0 : w3.cell? ⟨gp, 0, none⟩ = some (.string (st a)) := H3.out.p 0 a (by rw [hLL]; rfl)
  have d1 : w3.cell? ⟨gp, 1, none⟩ = some (.string (st b)) := H3.out.p 1 b (by rw [hLL]; rfl)
  have hpR : p = R.length + 2 := by rw [HL.out.2, hLL]; rfl
  have hp2 : ¬ (p : Int) < 2 := by omega
  have hp0 : (0 : Int) < (p : Int) := by omega
  have hp1 : (1 : Int) < (p : Int) := by omega
  have HR := Lib.hid (And.intro hLL hpR)
  clear hLL hpR
  obtain ⟨q, hq⟩ : ∃ q, p = q + 1 := ⟨p - 1, by have := HR.out.2; omega⟩
  obtain ⟨z, hz⟩ : ∃ z, L[q]? = some z := ⟨L[q]'(by have := HL.out.2; omega), List.getElem?_eq_getElem _⟩
  have hzl : z.length ≤ 2000 := by have h1 := spl_mem_len 32 s z (by rw [← HL.out.1]; exact List.mem_of_getElem? hz); omega
  have KN := Lib.hid (fun W => rnum18_run z (by omega) W)
  obtain ⟨nz, hnz⟩ : ∃ nz, nz = rz (rnum 10 18 z) := ⟨_, rfl⟩
  rw [← hnz] at KN
  have HN := Lib.hid (And.intro hz (And.intro hnz hq))
  have hsub : IntKind.i64.wrap ((p : Int) - 1) = (q : Int) := by rw [IntKind.wrap_i64]; have := hcm; simp [maxLen] at this; omega
  have hq0 : (0 : Int) ≤ (q : Int) := by omega
  have hqp : (q : Int) < (p : Int) := by omega
  clear hz hnz hq hzl
  have k0 := H3.out.e.c6
  have k1 := H3.out.e.fz 6
  go_upto_region 13 with fail
  have H4 : Aside (T3 w (w3.setCell ⟨g1, 6, none⟩ (.bool false)) g0 g1 g2 gp L 0 0 0 0 (.slice none 0 0) 0 false) := H3.out.act (stp_one _ _ _ _) (H3.out.e.setO false)
  generalize w3.setCell ⟨g1, 6, none⟩ (.bool false) = w4 at *
  clear H3 k0 k1 d0 d1
  have d2 : w4.cell? ⟨gp, q, none⟩ = some (.string (st z)) := H4.out.p q z HN.out.1
  have d0 : w4.cell? ⟨gp, 0, none⟩ = some (.string (st a)) := H4.out.p 0 a (by rw [HR.out.1]; rfl)
  go_wp2_with fail
  refine (KN.out _).mono ?_
  rintro _ w4 ⟨rfl, rfl⟩
  clear KN d2
  have hpe : ((p : Int) != 4) = false := by
    have h1 := HR.out.2
    rw [HXhR.out] at h1
    have h2 : p = 4 := h1
    rw [h2]
    rfl
  have hp2' : (2 : Int) < (p : Int) := by have h1 := HR.out.2; rw [HXhR.out] at h1; have h2 : p = 4 := h1; omega
  have hcl : c.length ≤ 2000 := by have h1 := spl_mem_len 32 s c (by rw [← HL.out.1, HR.out.1, HXhR.out]; simp); omega
  have KB := Lib.hid (fun W => by have h := rbytes_run c (by omega) W; rw [HXhu.out] at h; exact h)
  clear hcl
  go_upto_region 29 with fail
  clear d0
  have k0 := H4.out.e.c0
  have k1 := H4.out.e.fz 0
  go_upto_region 30 with fail
  have H5 : Aside (T3 w (w4.setCell ⟨g1, 0, none⟩ (.int .i64 2)) g0 g1 g2 gp L 2 0 0 0 (.slice none 0 0) 0 false) := H4.out.act (stp_one _ _ _ _) (H4.out.e.setK 2)
  generalize w4.setCell ⟨g1, 0, none⟩ (.int .i64 2) = w5 at *
  clear H4 k0 k1
  have d3 : w5.cell? ⟨gp, 2, none⟩ = some (.string (st c)) := H5.out.p 2 c (by rw [HR.out.1, HXhR.out]; rfl)
  go_wp2_with fail
  refine (KB.out _).mono ?_
  rintro _ w6 ⟨s6, ab, cb, rfl, hb1, hb2, hb3, hb4⟩
  have H6 : Aside (T3 w w6 g0 g1 g2 gp L 2 0 0 0 (.slice none 0 0) 0 false) := H5.out.stays s6
  have HB : Aside (Bts w6 ab D ∧ D.length ≤ cb ∧ (ab = none → cb = 0) ∧ ∀ ad, ab = some ad → g2 < ad.block) := ⟨hb1, hb2, hb3, fun ad e => Nat.lt_of_lt_of_le H5.out.z.lt (hb4 ad e)⟩
  have k0 := H6.out.e.c4
  have k1 := H6.out.e.fz 4
  clear hb1 hb2 hb3 hb4 s6 H5 d3 KB
  go_upto_region 38 with fail
  have H7 : Aside (T3 w (w6.setCell ⟨g1, 4, none⟩ (.slice ab D.length cb)) g0 g1 g2 gp L 2 0 0 0 (.slice ab D.length cb) 0 false ∧ Bts (w6.setCell ⟨g1, 4, none⟩ (.slice ab D.length cb)) ab D) :=
    ⟨H6.out.act (stp_one _ _ _ _) (H6.out.e.setD _), HB.out.1.other (stp_one w6 g1 4 (.slice ab D.length cb)) (fun _ ad e => by have := HB.out.2.2.2 ad e; have := H6.out.lo; simp; omega)⟩
  generalize w6.setCell ⟨g1, 4, none⟩ (.slice ab D.length cb) = w7 at *
  clear H6 k0 k1
  have hzb : z = d := by
    have h1 := HN.out.1
    have h2 := HN.out.2.2
    have h3 := HR.out.2
    rw [HR.out.1, HXhR.out] at h1
    rw [HXhR.out] at h3
    have h4 : q = 3 := by simp at h3; omega
    rw [h4] at h1
    simpa using h1.symm
  obtain rfl : nz = -1 := by rw [HN.out.2.1, hzb, HXhv.out]; rfl
  clear hzb
  have H8 : Aside (T3 w w7 g0 g1 g2 gp L 2 0 0 0 (.slice ab D.length cb) 0 false) := H7.out.1
  go_upto_region 39 with fail
  have c0 := H8.out.r.c0
  have c1 := H8.out.r.c1
  have c2 := H8.out.r.c2
  have c3 := H8.out.r.c3
  have c4 := H8.out.r.c4
  have c5 := H8.out.r.c5
  have c6 := H8.out.r.c6
  have e0 := H8.out.z.c0
  have e1 := H8.out.z.c1
  have e2 := H8.out.z.c2
  have e3 := H8.out.z.c3
  have e4 := H8.out.z.c4
  have e5 := H8.out.z.c5
  have e6 := H8.out.z.c6
  have z0 := H8.out.r.fz 0
  have z1 := H8.out.r.fz 1
  have z2 := H8.out.r.fz 2
  have z3 := H8.out.r.fz 3
  have z4 := H8.out.r.fz 4
  have z5 := H8.out.r.fz 5
  have z6 := H8.out.r.fz 6
  go_wp2
  refine bodyPost_ret (res_eff2 rfl _ rfl (H8.out.r.set7 0 0 0 0 (.slice none 0 0) 0 false)) rfl ?_
  refine ⟨(H8.out.stp.fresh (stp7 _ _ _ _ _ _ _ _ _) (by have := H8.out.lo; simp; omega)).none, ?_⟩
  rw [HRF.out]
  rfl

set_option maxHeartbeats 2000000 in
set_option maxRecDepth 100000 in
theorem rd_wrote2yf (s : List UInt8) (hs : s.length ≤ 2000) (w : World) (h1 : s ≠ [101, 110, 100]) (h2 : s ≠ [104, 105, 115, 116, 111, 114, 121]) (a b : List UInt8) (R : List (List UInt8)) (hL : spl 32 s = a :: b :: R) (ha : a = [119, 114, 111, 116, 101]) (hb : b = [102, 97, 105, 108]) (c d : List UInt8) (hR : R = [c, d]) (D : List UInt8) (hu : unhex c = some D) (v : Nat) (hv : rnum 10 18 d = some v) : Calls Tryz.prog 24 #[.string (st s)] w (EffTo (rf s) w) := by
  have HRF : Hid (rf s = some (2, { E0 with d := D, n := v, ok := false })) := Lib.hid (by
    unfold rf
    rw [if_neg h1, if_neg h2, hL]
    subst hR
    simp [rfL, ha, hb, tks, tk, hu, num_rnum, hv])
  have q1 : ((st s).toList == [101, 110, 100]) = false := by rw [st_toList]; exact beq_eq_false_iff_ne.2 h1
  have q2 : ((st s).toList == [104, 105, 115, 116, 111, 114, 121]) = false := by rw [st_toList]; exact beq_eq_false_iff_ne.2 h2
  have qagot : ((st a).toList == [103, 111, 116]) = false := by rw [st_toList, ha]; rfl
  have qawas : ((st a).toList == [119, 97, 115]) = false := by rw [st_toList, ha]; rfl
  have qawrote : ((st a).toList == [119, 114, 111, 116, 101]) = true := by rw [st_toList, ha]; rfl
  have qaread : ((st a).toList == [114, 101, 97, 100]) = false := by rw [st_toList, ha]; rfl
  have qasignal : ((st a).toList == [115, 105, 103, 110, 97, 108]) = false := by rw [st_toList, ha]; rfl
  have qb1 : ((st b).toList == [111, 107]) = false := by rw [st_toList, hb]; rfl
  have qb2 : ((st b).toList == [102, 97, 105, 108]) = true := by rw [st_toList, hb]; rfl
  have HXhR := Lib.hid hR
  have HXhu := Lib.hid hu
  have HXhv := Lib.hid hv
  clear hR hu hv
  have HLL := Lib.hid hL
  clear hL h1 h2 ha hb
  have KC := Lib.hid (fun W => rcut_run s 32 (by omega) W)
  have cv : ((32 : UInt8).toNat : Int) = 32 := rfl
  rw [cv] at KC
  clear cv
  go_enter Tryz.func24, Tryz.ntmps24
  have H0 : Aside (EAt (w.alloc (.cells #[.int .i64 0, .int .u32 0, .int .u8 0, .int .u8 0, .slice none 0 0, .int .i64 0, .bool false] 43)) w.heap.size 0 0 0 0 (.slice none 0 0) 0 false ∧ Stp [] w [] (w.alloc (.cells #[.int .i64 0, .int .u32 0, .int .u8 0, .int .u8 0, .slice none 0 0, .int .i64 0, .bool false] 43)) ∧ (w.alloc (.cells #[.int .i64 0, .int .u32 0, .int .u8 0, .int .u8 0, .slice none 0 0, .int .i64 0, .bool false] 43)).heap.size = w.heap.size + 1) := ⟨heap_alloc_new w _, Stp.alloc [] w _, by simp⟩
  obtain ⟨g0, hg0⟩ : ∃ g0, g0 = w.heap.size := ⟨_, rfl⟩
  rw [← hg0] at H0
  go_upto_region 1 with fail
  rw [← hg0]
  have HG := Lib.hid hg0
  generalize w.alloc (.cells #[.int .i64 0, .int .u32 0, .int .u8 0, .int .u8 0, .slice none 0 0, .int .i64 0, .bool false] 43) = w0 at *
  clear hg0
  go_wp2_with fail
  refine (KC.out _).mono ?_
  rintro _ w1 ⟨v, rfl, ho, s1⟩
  obtain ⟨a, cap, rfl, hno, hpc, hcm, hcell⟩ := ho.form
  rcases a with _ | ad
  · exact absurd (hno rfl).2 (spl_ne 32 s)
  obtain ⟨gp, rfl, hb1, hb2, hpcs⟩ := hcell ad rfl
  obtain ⟨L, hL⟩ : ∃ L, L = spl 32 s := ⟨_, rfl⟩
  obtain ⟨p, hp⟩ : ∃ p, p = L.length := ⟨_, rfl⟩
  rw [← hL] at hpc hpcs ⊢
  rw [← hp] at hpc ⊢
  have HL := Lib.hid (And.intro hL hp)
  have H1 : Aside (EAt w1 g0 0 0 0 0 (.slice none 0 0) 0 false ∧ Stp [] w [] w1 ∧ (∀ j x, L[j]? = some x → w1.cell? ⟨gp, j, none⟩ = some (.string (st x))) ∧ g0 < gp ∧ gp < w1.heap.size) := ⟨H0.out.1.other s1 (by simp), H0.out.2.1.trans s1, hpcs, by have := H0.out.2.2; omega, hb2⟩
  clear H0 s1 ho hno hpcs hcell hb1 hb2 hL hp KC
  go_upto_region 3 with fail
  have H2 : Aside (EAt (w1.alloc (.cells #[.int .i64 0, .int .u32 0, .int .u8 0, .int .u8 0, .slice none 0 0, .int .i64 0, .bool false] 43)) g0 0 0 0 0 (.slice none 0 0) 0 false ∧ EAt (w1.alloc (.cells #[.int .i64 0, .int .u32 0, .int .u8 0, .int .u8 0, .slice none 0 0, .int .i64 0, .bool false] 43)) w1.heap.size 0 0 0 0 (.slice none 0 0) 0 false ∧ Stp [] w [] (w1.alloc (.cells #[.int .i64 0, .int .u32 0, .int .u8 0, .int .u8 0, .slice none 0 0, .int .i64 0, .bool false] 43)) ∧ (∀ j x, L[j]? = some x → (w1.alloc (.cells #[.int .i64 0, .int .u32 0, .int .u8 0, .int .u8 0, .slice none 0 0, .int .i64 0, .bool false] 43)).cell? ⟨gp, j, none⟩ = some (.string (st x))) ∧ (g0 < gp ∧ gp < w1.heap.size ∧ w1.heap.size < (w1.alloc (.cells #[.int .i64 0, .int .u32 0, .int .u8 0, .int .u8 0, .slice none 0 0, .int .i64 0, .bool false] 43)).heap.size)) :=
    ⟨H1.out.1.other (Stp.alloc [] _ _) (by simp), heap_alloc_new w1 _, H1.out.2.1.trans (Stp.alloc [] _ _), fun j x hx => ((Stp.alloc [] w1 (.cells #[.int .i64 0, .int .u32 0, .int .u8 0, .int .u8 0, .slice none 0 0, .int .i64 0, .bool false] 43)).cell (a := ⟨gp, j, none⟩) H1.out.2.2.2.2 (by simp)).trans (H1.out.2.2.1 j x hx), H1.out.2.2.2.1, H1.out.2.2.2.2, by simp⟩
  generalize w1.alloc (.cells #[.int .i64 0, .int .u32 0, .int .u8 0, .int .u8 0, .slice none 0 0, .int .i64 0, .bool false] 43) = w2 at *
  generalize w1.heap.size = g1 at *
  have c0 := H2.out.2.1.c0
  have c1 := H2.out.2.1.c1
  have c2 := H2.out.2.1.c2
  have c3 := H2.out.2.1.c3
  have c4 := H2.out.2.1.c4
  have c5 := H2.out.2.1.c5
  have c6 := H2.out.2.1.c6
  clear H1
  go_upto_region 4 with fail
  have H3 : Aside (T3 w (w2.alloc (.cells #[.int .i64 0, .int .u32 0, .int .u8 0, .int .u8 0, .slice none 0 0, .int .i64 0, .bool false] 43)) g0 g1 w2.heap.size gp L 0 0 0 0 (.slice none 0 0) 0 false) :=
    ⟨H2.out.1.other (Stp.alloc [] _ _) (by simp), H2.out.2.1.other (Stp.alloc [] _ _) (by simp), heap_alloc_new w2 _, H2.out.2.2.1.trans (Stp.alloc [] _ _), fun j x hx => ((Stp.alloc [] w2 (.cells #[.int .i64 0, .int .u32 0, .int .u8 0, .int .u8 0, .slice none 0 0, .int .i64 0, .bool false] 43)).cell (a := ⟨gp, j, none⟩) (Nat.lt_trans H2.out.2.2.2.2.2.1 H2.out.2.2.2.2.2.2) (by simp)).trans (H2.out.2.2.2.1 j x hx), by rw [HG.out]; exact Nat.le_refl _, H2.out.2.2.2.2.1, H2.out.2.2.2.2.2.1, H2.out.2.2.2.2.2.2, by have := H2.out.2.2.2.2; simp; omega⟩
  generalize w2.alloc (.cells #[.int .i64 0, .int .u32 0, .int .u8 0, .int .u8 0, .slice none 0 0, .int .i64 0, .bool false] 43) = w3 at *
  generalize w2.heap.size = g2 at *
  clear H2 c0 c1 c2 c3 c4 c5 c6
  have hLL : L = a :: b :: R := HL.out.1.trans HLL.out
  have d0 : w3.cell? ⟨gp, 0, none⟩ = some (.string (st a)) := H3.out.p 0 a (by rw [hLL]; rfl)
  have d1 : w3.cell? ⟨gp, 1, none⟩ = some (.string (st b)) := H3.out.p 1 b (by rw [hLL]; rfl)
  have hpR : p = R.length + 2 := by rw [HL.out.2, hLL]; rfl
  have hp2 : ¬ (p : Int) < 2 := by omega
  have hp0 : (0 : Int) < (p : Int) := by omega
  have hp1 : (1 : Int) < (p : Int) := by omega
  have HR := Lib.hid (And.intro hLL hpR)
  clear hLL hpR
  obtain ⟨q, hq⟩ : ∃ q, p = q + 1 := ⟨p - 1, by have := HR.out.2; omega⟩
  obtain ⟨z, hz⟩ : ∃ z, L[q]? = some z := ⟨L[q]'(by have := HL.out.2; omega), List.getElem?_eq_getElem _⟩
  have hzl : z.length ≤ 2000 := by have h1 := spl_mem_len 32 s z (by rw [← HL.out.1]; exact List.mem_of_getElem? hz); omega
  have KN := Lib.hid (fun W => rnum18_run z (by omega) W)
  obtain ⟨nz, hnz⟩ : ∃ nz, nz = rz (rnum 10 18 z) := ⟨_, rfl⟩
  rw [← hnz] at KN
  have HN := Lib.hid (And.intro hz (And.intro hnz hq))
  have hsub : IntKind.i64.wrap ((p : Int) - 1) = (q : Int) := by rw [IntKind.wrap_i64]; have := hcm; simp [maxLen] at this; omega
  have hq0 : (0 : Int) ≤ (q : Int) := by omega
  have hqp : (q : Int) < (p : Int) := by omega
  clear hz hnz hq hzl
  have k0 := H3.out.e.c6
  have k1 := H3.out.e.fz 6
  go_upto_region 13 with fail
  have H4 : Aside (T3 w (w3.setCell ⟨g1, 6, none⟩ (.bool false)) g0 g1 g2 gp L 0 0 0 0 (.slice none 0 0) 0 false) := H3.out.act (stp_one _ _ _ _) (H3.out.e.setO false)
  generalize w3.setCell ⟨g1, 6, none⟩ (.bool false) = w4 at *
  clear H3 k0 k1 d0 d1
  have d2 : w4.cell? ⟨gp, q, none⟩ = some (.string (st z)) := H4.out.p q z HN.out.1
  have d0 : w4.cell? ⟨gp, 0, none⟩ = some (.string (st a)) := H4.out.p 0 a (by rw [HR.out.1]; rfl)
  go_wp2_with fail
  refine (KN.out _).mono ?_
  rintro _ w4 ⟨rfl, rfl⟩
  clear KN d2
  have hpe : ((p : Int) != 4) = false := by
    have h1 := HR.out.2
    rw [HXhR.out] at h1
    have h2 : p = 4 := h1
    rw [h2]
    rfl
  have hp2' : (2 : Int) < (p : Int) := by have h1 := HR.out.2; rw [HXhR.out] at h1; have h2 : p = 4 := h1; omega
  have hcl : c.length ≤ 2000 := by have h1 := spl_mem_len 32 s c (by rw [← HL.out.1, HR.out.1, HXhR.out]; simp); omega
  have KB := Lib.hid (fun W => by have h := rbytes_run c (by omega) W; rw [HXhu.out] at h; exact h)
  clear hcl
  go_upto_region 29 with fail
  clear d0
  have k0 := H4.out.e.c0
  have k1 := H4.out.e.fz 0
  go_upto_region 30 with fail
  have H5 : Aside (T3 w (w4.setCell ⟨g1, 0, none⟩ (.int .i64 2)) g0 g1 g2 gp L 2 0 0 0 (.slice none 0 0) 0 false) := H4.out.act (stp_one _ _ _ _) (H4.out.e.setK 2)
  generalize w4.setCell ⟨g1, 0, none⟩ (.int .i64 2) = w5 at *
  clear H4 k0 k1
  have d3 : w5.cell? ⟨gp, 2, none⟩ = some (.string (st c)) := H5.out.p 2 c (by rw [HR.out.1, HXhR.out]; rfl)
  go_wp2_with fail
  refine (KB.out _).mono ?_
  rintro _ w6 ⟨s6, ab, cb, rfl, hb1, hb2, hb3, hb4⟩
  have H6 : Aside (T3 w w6 g0 g1 g2 gp L 2 0 0 0 (.slice none 0 0) 0 false) := H5.out.stays s6
  have HB : Aside (Bts w6 ab D ∧ D.length ≤ cb ∧ (ab = none → cb = 0) ∧ ∀ ad, ab = some ad → g2 < ad.block) := ⟨hb1, hb2, hb3, fun ad e => Nat.lt_of_lt_of_le H5.out.z.lt (hb4 ad e)⟩
  have k0 := H6.out.e.c4
  have k1 := H6.out.e.fz 4
  clear hb1 hb2 hb3 hb4 s6 H5 d3 KB
  go_upto_region 38 with fail
  have H7 : Aside (T3 w (w6.setCell ⟨g1, 4, none⟩ (.slice ab D.length cb)) g0 g1 g2 gp L 2 0 0 0 (.slice ab D.length cb) 0 false ∧ Bts (w6.setCell ⟨g1, 4, none⟩ (.slice ab D.length cb)) ab D) :=
    ⟨H6.out.act (stp_one _ _ _ _) (H6.out.e.setD _), HB.out.1.other (stp_one w6 g1 4 (.slice ab D.length cb)) (fun _ ad e => by have := HB.out.2.2.2 ad e; have := H6.out.lo; simp; omega)⟩
  generalize w6.setCell ⟨g1, 4, none⟩ (.slice ab D.length cb) = w7 at *
  clear H6 k0 k1
  have hzb : z = d := by
    have h1 := HN.out.1
    have h2 := HN.out.2.2
    have h3 := HR.out.2
    rw [HR.out.1, HXhR.out] at h1
    rw [HXhR.out] at h3
    have h4 : q = 3 := by simp at h3; omega
    rw [h4] at h1
    simpa using h1.symm
  obtain rfl : nz = (v : Int) := by rw [HN.out.2.1, hzb, HXhv.out]; rfl
  clear hzb
  have hn0 : ¬ (v : Int) < 0 := by omega
  have hn1 : decide ((v : Int) < 0) = false := decide_eq_false hn0
  have H8 : Aside (T3 w w7 g0 g1 g2 gp L 2 0 0 0 (.slice ab D.length cb) 0 false) := H7.out.1
  have HB8 : Aside (Bts w7 ab D) := H7.out.2
  clear H7
  go_upto_region 40 with fail
  have HB9 : Aside (Bts (w7.setCell ⟨g1, 5, none⟩ (.int .i64 (v : Int))) ab D) := HB8.out.other (stp_one w7 g1 5 (.int .i64 (v : Int))) (fun _ ad e => by have := HB.out.2.2.2 ad e; have := H8.out.lo; simp; omega)
  have k0 := H8.out.e.c5
  have k1 := H8.out.e.fz 5
  go_upto_region 41 with fail
  have H9 : Aside (T3 w (w7.setCell ⟨g1, 5, none⟩ (.int .i64 (v : Int))) g0 g1 g2 gp L 2 0 0 0 (.slice ab D.length cb) (v : Int) false) := H8.out.act (stp_one _ _ _ _) (H8.out.e.setN (v : Int))
  generalize w7.setCell ⟨g1, 5, none⟩ (.int .i64 (v : Int)) = w8 at *
  clear H8 k0 k1
  have c0 := H9.out.r.c0
  have c1 := H9.out.r.c1
  have c2 := H9.out.r.c2
  have c3 := H9.out.r.c3
  have c4 := H9.out.r.c4
  have c5 := H9.out.r.c5
  have c6 := H9.out.r.c6
  have e0 := H9.out.e.c0
  have e1 := H9.out.e.c1
  have e2 := H9.out.e.c2
  have e3 := H9.out.e.c3
  have e4 := H9.out.e.c4
  have e5 := H9.out.e.c5
  have e6 := H9.out.e.c6
  have z0 := H9.out.r.fz 0
  have z1 := H9.out.r.fz 1
  have z2 := H9.out.r.fz 2
  have z3 := H9.out.r.fz 3
  have z4 := H9.out.r.fz 4
  have z5 := H9.out.r.fz 5
  have z6 := H9.out.r.fz 6
  go_wp2
  refine bodyPost_ret (res_eff2 rfl _ rfl (H9.out.r.set7 2 0 0 0 (.slice ab D.length cb) (v : Int) false)) rfl ?_
  refine ⟨(H9.out.stp.fresh (stp7 _ _ _ _ _ _ _ _ _) (by have := H9.out.lo; simp; omega)).none, ?_⟩
  rw [HRF.out]
  exact ⟨_, rfl, ab, cb, rfl, HB9.out.other (stp7 _ _ _ _ _ _ _ _ _) (fun _ ad e => by have := HB.out.2.2.2 ad e; have := H9.out.lo; simp; omega), HB.out.2.1, HB.out.2.2.1, fun ad e => by have := HB.out.2.2.2 ad e; have := H9.out.lo; omega⟩

set_option maxHeartbeats 2000000 in
set_option maxRecDepth 100000 in
theorem rd_atgotyt (s : List UInt8) (hs : s.length ≤ 2000) (w : World) (h1 : s ≠ [101, 110, 100]) (h2 : s ≠ [104, 105, 115, 116, 111, 114, 121]) (a b : List UInt8) (R : List (List UInt8)) (hL : spl 32 s = a :: b :: R) (ha : a = [103, 111, 116]) (hb : b = [111, 107]) (c d e : List UInt8) (hR : R = [c, d, e]) (T : List UInt8) (hT : T = c ++ 32 :: (d ++ 32 :: e)) (hu : text (rdf T) (rdm T) (rdt T) = T) (f m t : Nat) (hf : rdf T = f) (hm : rdm T = m) (ht : rdt T = t) : Calls Tryz.prog 24 #[.string (st s)] w (EffTo (rf s) w) := by
  have HRF : Hid (rf s = some (0, { E0 with f := f, m := m, t := t, ok := true })) := Lib.hid (by
    unfold rf
    rw [if_neg h1, if_neg h2, hL]
    subst hR
    have hu2 := hu
    rw [hf, hm, ht] at hu2
    subst hT
    simp [rfL, ha, hb, tks, tk, hu, hf, hm, ht, hu2])
  have q1 : ((st s).toList == [101, 110, 100]) = false := by rw [st_toList]; exact beq_eq_false_iff_ne.2 h1
  have q2 : ((st s).toList == [104, 105, 115, 116, 111, 114, 121]) = false := by rw [st_toList]; exact beq_eq_false_iff_ne.2 h2
  have qagot : ((st a).toList == [103, 111, 116]) = true := by rw [st_toList, ha]; rfl
  have qawas : ((st a).toList == [119, 97, 115]) = false := by rw [st_toList, ha]; rfl
  have qawrote : ((st a).toList == [119, 114, 111, 116, 101]) = false := by rw [st_toList, ha]; rfl
  have qaread : ((st a).toList == [114, 101, 97, 100]) = false := by rw [st_toList, ha]; rfl
  have qasignal : ((st a).toList == [115, 105, 103, 110, 97, 108]) = false := by rw [st_toList, ha]; rfl
  have qb1 : ((st b).toList == [111, 107]) = true := by rw [st_toList, hb]; rfl
  have hrv : rv T = .tuple #[.agg #[.int .u32 (f : Int), .int .u8 (m : Int), .int .u8 (t : Int)], .int .i64 0] := by
    unfold rv
    rw [if_pos hu, hf, hm, ht]
    rfl
  clear hu hf hm ht
  have HXhR := Lib.hid hR
  have HXhT := Lib.hid hT
  have HXhrv := Lib.hid hrv
  clear hR hT hrv
  have HLL := Lib.hid hL
  clear hL h1 h2 ha hb
  have KC := Lib.hid (fun W => rcut_run s 32 (by omega) W)
  have cv : ((32 : UInt8).toNat : Int) = 32 := rfl
  rw [cv] at KC
  clear cv
  go_enter Tryz.func24, Tryz.ntmps24
  have H0 : Aside (EAt (w.alloc (.cells #[.int .i64 0, .int .u32 0, .int .u8 0, .int .u8 0, .slice none 0 0, .int .i64 0, .bool false] 43)) w.heap.size 0 0 0 0 (.slice none 0 0) 0 false ∧ Stp [] w [] (w.alloc (.cells #[.int .i64 0, .int .u32 0, .int .u8 0, .int .u8 0, .slice none 0 0, .int .i64 0, .bool false] 43)) ∧ (w.alloc (.cells #[.int .i64 0, .int .u32 0, .int .u8 0, .int .u8 0, .slice none 0 0, .int .i64 0, .bool false] 43)).heap.size = w.heap.size + 1) := ⟨heap_alloc_new w _, Stp.alloc [] w _, by simp⟩
  obtain ⟨g0, hg0⟩ : ∃ g0, g0 = w.heap.size := ⟨_, rfl⟩
  rw [← hg0] at H0
  go_upto_region 1 with fail
  rw [← hg0]
  have HG := Lib.hid hg0
  generalize w.alloc (.cells #[.int .i64 0, .int .u32 0, .int .u8 0, .int .u8 0, .slice none 0 0, .int .i64 0, .bool false] 43) = w0 at *
  clear hg0
  go_wp2_with fail
  refine (KC.out _).mono ?_
  rintro _ w1 ⟨v, rfl, ho, s1⟩
  obtain ⟨a, cap, rfl, hno, hpc, hcm, hcell⟩ := ho.form
  rcases a with _ | ad
  · exact absurd (hno rfl).2 (spl_ne 32 s)
  obtain ⟨gp, rfl, hb1, hb2, hpcs⟩ := hcell ad rfl
  obtain ⟨L, hL⟩ : ∃ L, L = spl 32 s := ⟨_, rfl⟩
  obtain ⟨p, hp⟩ : ∃ p, p = L.length := ⟨_, rfl⟩
  rw [← hL] at hpc hpcs ⊢
  rw [← hp] at hpc ⊢
  have HL := Lib.hid (And.intro hL hp)
  have H1 : Aside (EAt w1 g0 0 0 0 0 (.slice none 0 0) 0 false ∧ Stp [] w [] w1 ∧ (∀ j x, L[j]? = some x → w1.cell? ⟨gp, j, none⟩ = some (.string (st x))) ∧ g0 < gp ∧ gp < w1.heap.size) := ⟨H0.out.1.other s1 (by simp), H0.out.2.1.trans s1, hpcs, by have := H0.out.2.2; omega, hb2⟩
  clear H0 s1 ho hno hpcs hcell hb1 hb2 hL hp KC
  go_upto_region 3 with fail
  have H2 : Aside (EAt (w1.alloc (.cells #[.int .i64 0, .int .u32 0, .int .u8 0, .int .u8 0, .slice none 0 0, .int .i64 0, .bool false] 43)) g0 0 0 0 0 (.slice none 0 0) 0 false ∧ EAt (w1.alloc (.cells #[.int .i64 0, .int .u32 0, .int .u8 0, .int .u8 0, .slice none 0 0, .int .i64 0, .bool false] 43)) w1.heap.size 0 0 0 0 (.slice none 0 0) 0 false ∧ Stp [] w [] (w1.alloc (.cells #[.int .i64 0, .int .u32 0, .int .u8 0, .int .u8 0, .slice none 0 0, .int .i64 0, .bool false] 43)) ∧ (∀ j x, L[j]? = some x → (w1.alloc (.cells #[.int .i64 0, .int .u32 0, .int .u8 0, .int .u8 0, .slice none 0 0, .int .i64 0, .bool false] 43)).cell? ⟨gp, j, none⟩ = some (.string (st x))) ∧ (g0 < gp ∧ gp < w1.heap.size ∧ w1.heap.size < (w1.alloc (.cells #[.int .i64 0, .int .u32 0, .int .u8 0, .int .u8 0, .slice none 0 0, .int .i64 0, .bool false] 43)).heap.size)) :=
    ⟨H1.out.1.other (Stp.alloc [] _ _) (by simp), heap_alloc_new w1 _, H1.out.2.1.trans (Stp.alloc [] _ _), fun j x hx => ((Stp.alloc [] w1 (.cells #[.int .i64 0, .int .u32 0, .int .u8 0, .int .u8 0, .slice none 0 0, .int .i64 0, .bool false] 43)).cell (a := ⟨gp, j, none⟩) H1.out.2.2.2.2 (by simp)).trans (H1.out.2.2.1 j x hx), H1.out.2.2.2.1, H1.out.2.2.2.2, by simp⟩
  generalize w1.alloc (.cells #[.int .i64 0, .int .u32 0, .int .u8 0, .int .u8 0, .slice none 0 0, .int .i64 0, .bool false] 43) = w2 at *
  generalize w1.heap.size = g1 at *
  have c0 := H2.out.2.1.c0
  have c1 := H2.out.2.1.c1
  have c2 := H2.out.2.1.c2
  have c3 := H2.out.2.1.c3
  have c4 := H2.out.2.1.c4
  have c5 := H2.out.2.1.c5
  have c6 := H2.out.2.1.c6
  clear H1
  go_upto_region 4 with fail
  have H3 : Aside (T3 w (w2.alloc (.cells #[.int .i64 0, .int .u32 0, .int .u8 0, .int .u8 0, .slice none 0 0, .int .i64 0, .bool false] 43)) g0 g1 w2.heap.size gp L 0 0 0 0 (.slice none 0 0) 0 false) :=
    ⟨H2.out.1.other (Stp.alloc [] _ _) (by simp), H2.out.2.1.other (Stp.alloc [] _ _) (by simp), heap_alloc_new w2 _, H2.out.2.2.1.trans (Stp.alloc [] _ _), fun j x hx => ((Stp.alloc [] w2 (.cells #[.int .i64 0, .int .u32 0, .int .u8 0, .int .u8 0, .slice none 0 0, .int .i64 0, .bool false] 43)).cell (a := ⟨gp, j, none⟩) (Nat.lt_trans H2.out.2.2.2.2.2.1 H2.out.2.2.2.2.2.2) (by simp)).trans (H2.out.2.2.2.1 j x hx), by rw [HG.out]; exact Nat.le_refl _, H2.out.2.2.2.2.1, H2.out.2.2.2.2.2.1, H2.out.2.2.2.2.2.2, by have := H2.out.2.2.2.2; simp; omega⟩
  generalize w2.alloc (.cells #[.int .i64 0, .int .u32 0, .int .u8 0, .int .u8 0, .slice none 0 0, .int .i64 0, .bool false] 43) = w3 at *
  generalize w2.heap.size = g2 at *
  clear H2 c0 c1 c2 c3 c4 c5 c6
  have hLL : L = a :: b :: R := HL.out.1.trans HLL.out
  have d0 : w3.cell? ⟨gp, 0, none⟩ = some (.string (st a)) := H3.out.p 0 a (by rw [hLL]; rfl)
  have d1 : w3.cell? ⟨gp, 1, none⟩ = some (.string (st b)) := H3.out.p 1 b (by rw [hLL]; rfl)
  have hpR : p = R.length + 2 := by rw [HL.out.2, hLL]; rfl
  have hp2 : ¬ (p : Int) < 2 := by omega
  have hp0 : (0 : Int) < (p : Int) := by omega
  have hp1 : (1 : Int) < (p : Int) := by omega
  have HR := Lib.hid (And.intro hLL hpR)
  clear hLL hpR
  obtain ⟨q, hq⟩ : ∃ q, p = q + 1 := ⟨p - 1, by have := HR.out.2; omega⟩
  obtain ⟨z, hz⟩ : ∃ z, L[q]? = some z := ⟨L[q]'(by have := HL.out.2; omega), List.getElem?_eq_getElem _⟩
  have hzl : z.length ≤ 2000 := by have h1 := spl_mem_len 32 s z (by rw [← HL.out.1]; exact List.mem_of_getElem? hz); omega
  have KN := Lib.hid (fun W => rnum18_run z (by omega) W)
  obtain ⟨nz, hnz⟩ : ∃ nz, nz = rz (rnum 10 18 z) := ⟨_, rfl⟩
  rw [← hnz] at KN
  have HN := Lib.hid (And.intro hz (And.intro hnz hq))
  have hsub : IntKind.i64.wrap ((p : Int) - 1) = (q : Int) := by rw [IntKind.wrap_i64]; have := hcm; simp [maxLen] at this; omega
  have hq0 : (0 : Int) ≤ (q : Int) := by omega
  have hqp : (q : Int) < (p : Int) := by omega
  clear hz hnz hq hzl
  have k0 := H3.out.e.c6
  have k1 := H3.out.e.fz 6
  go_upto_region 13 with fail
  have H4 : Aside (T3 w (w3.setCell ⟨g1, 6, none⟩ (.bool true)) g0 g1 g2 gp L 0 0 0 0 (.slice none 0 0) 0 true) := H3.out.act (stp_one _ _ _ _) (H3.out.e.setO true)
  generalize w3.setCell ⟨g1, 6, none⟩ (.bool true) = w4 at *
  clear H3 k0 k1 d0 d1
  have d2 : w4.cell? ⟨gp, q, none⟩ = some (.string (st z)) := H4.out.p q z HN.out.1
  have d0 : w4.cell? ⟨gp, 0, none⟩ = some (.string (st a)) := H4.out.p 0 a (by rw [HR.out.1]; rfl)
  go_wp2_with fail
  refine (KN.out _).mono ?_
  rintro _ w4 ⟨rfl, rfl⟩
  clear KN d2
  have h5 : p = 5 := by have h1 := HR.out.2; rw [HXhR.out] at h1; exact h1
  have hpe : ((p : Int) != 5) = false := by rw [h5]; rfl
  have hp2' : (2 : Int) < (p : Int) := by omega
  have hp3' : (3 : Int) < (p : Int) := by omega
  have hp4' : (4 : Int) < (p : Int) := by omega
  have hlen : c.length ≤ 2000 ∧ d.length ≤ 2000 ∧ e.length ≤ 2000 := by
    refine ⟨?_, ?_, ?_⟩
    · have h1 := spl_mem_len 32 s c (by rw [← HL.out.1, HR.out.1, HXhR.out]; simp); omega
    · have h1 := spl_mem_len 32 s d (by rw [← HL.out.1, HR.out.1, HXhR.out]; simp); omega
    · have h1 := spl_mem_len 32 s e (by rw [← HL.out.1, HR.out.1, HXhR.out]; simp); omega
  clear h5
  have hTl : T.length ≤ 3000 := by
    have h1 := spl_glue 32 s
    rw [← HL.out.1, HR.out.1, HXhR.out] at h1
    have h2 := congrArg List.length h1
    rw [HXhT.out]
    simp [Lib.join] at h2 ⊢
    omega
  go_upto_region 21 with fail
  obtain ⟨S0, hS0⟩ : ∃ S, S = st c := ⟨_, rfl⟩
  obtain ⟨Sd, hSd⟩ : ∃ S, S = st d := ⟨_, rfl⟩
  obtain ⟨Se, hSe⟩ : ∃ S, S = st e := ⟨_, rfl⟩
  obtain ⟨S1, e1⟩ : ∃ S, S0 ++ (⟨#[32]⟩ : ByteArray) = S := ⟨_, rfl⟩
  obtain ⟨S2, e2⟩ : ∃ S, S1 ++ Sd = S := ⟨_, rfl⟩
  obtain ⟨S3, e3⟩ : ∃ S, S2 ++ (⟨#[32]⟩ : ByteArray) = S := ⟨_, rfl⟩
  obtain ⟨S4, e4⟩ : ∃ S, S3 ++ Se = S := ⟨_, rfl⟩
  have hs32 : (⟨#[32]⟩ : ByteArray) = st [32] := rfl
  have g1' : S1 = st (c ++ [32]) := by rw [← e1, hS0, hs32, st_append]
  have g2' : S2 = st (c ++ [32] ++ d) := by rw [← e2, g1', hSd, st_append]
  have g3' : S3 = st (c ++ [32] ++ d ++ [32]) := by rw [← e3, g2', hs32, st_append]
  have g4' : S4 = st T := by rw [← e4, g3', hSe, st_append, HXhT.out]; simp
  have n0 : S0.size = c.length := by rw [hS0, st_size]
  have nd : Sd.size = d.length := by rw [hSd, st_size]
  have ne : Se.size = e.length := by rw [hSe, st_size]
  have n1 : S1.size = c.length + 1 := by rw [g1', st_size]; simp
  have n2 : S2.size = c.length + 1 + d.length := by rw [g2', st_size]; simp; omega
  have n3 : S3.size = c.length + 1 + d.length + 1 := by rw [g3', st_size]; simp; omega
  have hr1 : ¬ 9223372036854775807 < S0.size + 1 := by omega
  have hr1b : ¬ 9223372036854775807 < S0.size + (⟨#[32]⟩ : ByteArray).size := hr1
  have hr2 : ¬ 9223372036854775807 < S1.size + Sd.size := by omega
  have hr3 : ¬ 9223372036854775807 < S2.size + 1 := by omega
  have hr3b : ¬ 9223372036854775807 < S2.size + (⟨#[32]⟩ : ByteArray).size := hr3
  have hr4 : ¬ 9223372036854775807 < S3.size + Se.size := by omega
  have KR : ∀ W', Stp [] w4 [] W' → Calls Tryz.prog 39 #[.string S4] W' fun en w' => en = .returned (.tuple #[.agg #[.int .u32 (f : Int), .int .u8 (m : Int), .int .u8 (t : Int)], .int .i64 0]) ∧ Stp [] w4 [] w' := fun W' hs => by
    have h := rread_run T hTl W'
    rw [HXhrv.out, ← g4'] at h
    exact h.mono fun _ _ ⟨h1, h2⟩ => ⟨h1, hs.trans h2⟩
  have KR := Lib.hid KR
  have HC : Aside (∀ W', Stp [] w4 [] W' → W'.cell? ⟨gp, 2, none⟩ = some (.string S0) ∧ W'.cell? ⟨gp, 3, none⟩ = some (.string Sd) ∧ W'.cell? ⟨gp, 4, none⟩ = some (.string Se)) := fun W' hs => by
    have q := (H4.out.stays hs).p
    exact ⟨by rw [hS0]; exact q 2 c (by rw [HR.out.1, HXhR.out]; rfl), by rw [hSd]; exact q 3 d (by rw [HR.out.1, HXhR.out]; rfl), by rw [hSe]; exact q 4 e (by rw [HR.out.1, HXhR.out]; rfl)⟩
  have HC2 : Aside (∀ W', Stp [] w4 [] W' → T3 w (((W'.setCell ⟨g1, 1, none⟩ (.int .u32 (f : Int))).setCell ⟨g1, 2, none⟩ (.int .u8 (m : Int))).setCell ⟨g1, 3, none⟩ (.int .u8 (t : Int))) g0 g1 g2 gp L 0 f m t (.slice none 0 0) 0 true) := fun W' hs =>
    (H4.out.stays hs).act (((stp_one _ _ _ _).trans (stp_one _ _ _ _)).trans (stp_one _ _ _ _)) ((H4.out.stays hs).e.setA f m t)
  have HC3 : Aside (∀ W', Stp [] w4 [] W' → (((W'.setCell ⟨g1, 1, none⟩ (.int .u32 (f : Int))).setCell ⟨g1, 2, none⟩ (.int .u8 (m : Int))).setCell ⟨g1, 3, none⟩ (.int .u8 (t : Int))).cell? ⟨gp, 2, none⟩ = some (.string S0) ∧ (((W'.setCell ⟨g1, 1, none⟩ (.int .u32 (f : Int))).setCell ⟨g1, 2, none⟩ (.int .u8 (m : Int))).setCell ⟨g1, 3, none⟩ (.int .u8 (t : Int))).cell? ⟨gp, 3, none⟩ = some (.string Sd) ∧ (((W'.setCell ⟨g1, 1, none⟩ (.int .u32 (f : Int))).setCell ⟨g1, 2, none⟩ (.int .u8 (m : Int))).setCell ⟨g1, 3, none⟩ (.int .u8 (t : Int))).cell? ⟨gp, 4, none⟩ = some (.string Se)) := fun W' hs => by
    have q := (HC2.out W' hs).p
    exact ⟨by rw [hS0]; exact q 2 c (by rw [HR.out.1, HXhR.out]; rfl), by rw [hSd]; exact q 3 d (by rw [HR.out.1, HXhR.out]; rfl), by rw [hSe]; exact q 4 e (by rw [HR.out.1, HXhR.out]; rfl)⟩
  have hcur : Stp [] w4 [] w4.drew := Stp.drew _ _
  clear hS0 hSd hSe hs32 g1' g2' g3' g4' n0 nd ne n1 n2 n3 hlen hTl d0
  go_region_held3 (fun W' => W'.cell? ⟨gp, 2, none⟩ = some (.string S0) ∧ W'.cell? ⟨gp, 3, none⟩ = some (.string Sd) ∧ W'.cell? ⟨gp, 4, none⟩ = some (.string Se))
    (first | exact HC.out _ hcur | exact HC3.out _ hcur | assumption)
    (first
      | (go_at_call 39
         refine (KR.out _ hcur).mono ?_
         rintro _ w5 ⟨rfl, s5⟩
         replace hcur := s5
         have b1 := (H4.out.stays s5).e.c1
         have b2 := (H4.out.stays s5).e.c2
         have b3 := (H4.out.stays s5).e.c3
         have y1 := (H4.out.stays s5).e.fz 1
         have y2 := (H4.out.stays s5).e.fz 2
         have y3 := (H4.out.stays s5).e.fz 3))
  have H5 := HC2.out _ hcur
  have H5 : Aside (T3 w (((w5.setCell ⟨g1, 1, none⟩ (.int .u32 (f : Int))).setCell ⟨g1, 2, none⟩ (.int .u8 (m : Int))).setCell ⟨g1, 3, none⟩ (.int .u8 (t : Int))) g0 g1 g2 gp L 0 f m t (.slice none 0 0) 0 true) := H5
  generalize ((w5.setCell ⟨g1, 1, none⟩ (.int .u32 (f : Int))).setCell ⟨g1, 2, none⟩ (.int .u8 (m : Int))).setCell ⟨g1, 3, none⟩ (.int .u8 (t : Int)) = w6 at *
  clear b1 b2 b3 y1 y2 y3 HC HC2 HC3 KR H4 hcur e1 e2 e3 e4 hr1 hr1b hr2 hr3 hr3b hr4
  have d0 : w6.cell? ⟨gp, 0, none⟩ = some (.string (st a)) := H5.out.p 0 a (by rw [HR.out.1]; rfl)
  go_upto_region 40 with fail
  clear d0
  have k0 := H5.out.e.c5
  have k1 := H5.out.e.fz 5
  go_upto_region 41 with fail
  have H8 : Aside (T3 w (w6.setCell ⟨g1, 5, none⟩ (.int .i64 0)) g0 g1 g2 gp L 0 f m t (.slice none 0 0) 0 true) := H5.out.act (stp_one _ _ _ _) (H5.out.e.setN 0)
  generalize w6.setCell ⟨g1, 5, none⟩ (.int .i64 0) = w8 at *
  clear H5 k0 k1
  have c0 := H8.out.r.c0
  have c1 := H8.out.r.c1
  have c2 := H8.out.r.c2
  have c3 := H8.out.r.c3
  have c4 := H8.out.r.c4
  have c5 := H8.out.r.c5
  have c6 := H8.out.r.c6
  have e0 := H8.out.e.c0
  have e1 := H8.out.e.c1
  have e2 := H8.out.e.c2
  have e3 := H8.out.e.c3
  have e4 := H8.out.e.c4
  have e5 := H8.out.e.c5
  have e6 := H8.out.e.c6
  have z0 := H8.out.r.fz 0
  have z1 := H8.out.r.fz 1
  have z2 := H8.out.r.fz 2
  have z3 := H8.out.r.fz 3
  have z4 := H8.out.r.fz 4
  have z5 := H8.out.r.fz 5
  have z6 := H8.out.r.fz 6
  go_wp2
  refine bodyPost_ret (res_eff2 rfl _ rfl (H8.out.r.set7 0 f m t (.slice none 0 0) 0 true)) rfl ?_
  refine ⟨(H8.out.stp.fresh (stp7 _ _ _ _ _ _ _ _ _) (by have := H8.out.lo; simp; omega)).none, ?_⟩
  rw [HRF.out]
  exact ⟨_, rfl, none, 0, rfl, Bts.nil _ _, Nat.le_refl _, fun _ => rfl, fun ad h => by cases h⟩

set_option maxHeartbeats 2000000 in
set_option maxRecDepth 100000 in
theorem rd_atgotnt (s : List UInt8) (hs : s.length ≤ 2000) (w : World) (h1 : s ≠ [101, 110, 100]) (h2 : s ≠ [104, 105, 115, 116, 111, 114, 121]) (a b : List UInt8) (R : List (List UInt8)) (hL : spl 32 s = a :: b :: R) (ha : a = [103, 111, 116]) (hb : b = [111, 107]) (c d e : List UInt8) (hR : R = [c, d, e]) (T : List UInt8) (hT : T = c ++ 32 :: (d ++ 32 :: e)) (hu : text (rdf T) (rdm T) (rdt T) ≠ T) : Calls Tryz.prog 24 #[.string (st s)] w (EffTo (rf s) w) := by
  have HRF : Hid (rf s = none) := Lib.hid (by
    unfold rf
    rw [if_neg h1, if_neg h2, hL]
    subst hR
    subst hT
    simp [rfL, ha, hb, tks, tk, hu])
  have q1 : ((st s).toList == [101, 110, 100]) = false := by rw [st_toList]; exact beq_eq_false_iff_ne.2 h1
  have q2 : ((st s).toList == [104, 105, 115, 116, 111, 114, 121]) = false := by rw [st_toList]; exact beq_eq_false_iff_ne.2 h2
  have qagot : ((st a).toList == [103, 111, 116]) = true := by rw [st_toList, ha]; rfl
  have qawas : ((st a).toList == [119, 97, 115]) = false := by rw [st_toList, ha]; rfl
  have qawrote : ((st a).toList == [119, 114, 111, 116, 101]) = false := by rw [st_toList, ha]; rfl
  have qaread : ((st a).toList == [114, 101, 97, 100]) = false := by rw [st_toList, ha]; rfl
  have qasignal : ((st a).toList == [115, 105, 103, 110, 97, 108]) = false := by rw [st_toList, ha]; rfl
  have qb1 : ((st b).toList == [111, 107]) = true := by rw [st_toList, hb]; rfl
  have hrv : rv T = .tuple #[.agg #[.int .u32 (0 : Int), .int .u8 (0 : Int), .int .u8 (0 : Int)], .int .i64 8] := by
    unfold rv
    rw [if_neg hu]
    rfl
  clear hu
  have HXhR := Lib.hid hR
  have HXhT := Lib.hid hT
  have HXhrv := Lib.hid hrv
  clear hR hT hrv
  have HLL := Lib.hid hL
  clear hL h1 h2 ha hb
  have KC := Lib.hid (fun W => rcut_run s 32 (by omega) W)
  have cv : ((32 : UInt8).toNat : Int) = 32 := rfl
  rw [cv] at KC
  clear cv
  go_enter Tryz.func24, Tryz.ntmps24
  have H0 : Aside (EAt (w.alloc (.cells #[.int .i64 0, .int .u32 0, .int .u8 0, .int .u8 0, .slice none 0 0, .int .i64 0, .bool false] 43)) w.heap.size 0 0 0 0 (.slice none 0 0) 0 false ∧ Stp [] w [] (w.alloc (.cells #[.int .i64 0, .int .u32 0, .int .u8 0, .int .u8 0, .slice none 0 0, .int .i64 0, .bool false] 43)) ∧ (w.alloc (.cells #[.int .i64 0, .int .u32 0, .int .u8 0, .int .u8 0, .slice none 0 0, .int .i64 0, .bool false] 43)).heap.size = w.heap.size + 1) := ⟨heap_alloc_new w _, Stp.alloc [] w _, by simp⟩
  obtain ⟨g0, hg0⟩ : ∃ g0, g0 = w.heap.size := ⟨_, rfl⟩
  rw [← hg0] at H0
  go_upto_region 1 with fail
  rw [← hg0]
  have HG := Lib.hid hg0
  generalize w.alloc (.cells #[.int .i64 0, .int .u32 0, .int .u8 0, .int .u8 0, .slice none 0 0, .int .i64 0, .bool false] 43) = w0 at *
  clear hg0
  go_wp2_with fail
  refine (KC.out _).mono ?_
  rintro _ w1 ⟨v, rfl, ho, s1⟩
  obtain ⟨a, cap, rfl, hno, hpc, hcm, hcell⟩ := ho.form
  rcases a with _ | ad
  · exact absurd (hno rfl).2 (spl_ne 32 s)
  obtain ⟨gp, rfl, hb1, hb2, hpcs⟩ := hcell ad rfl
  obtain ⟨L, hL⟩ : ∃ L, L = spl 32 s := ⟨_, rfl⟩
  obtain ⟨p, hp⟩ : ∃ p, p = L.length := ⟨_, rfl⟩
  rw [← hL] at hpc hpcs ⊢
  rw [← hp] at hpc ⊢
  have HL := Lib.hid (And.intro hL hp)
  have H1 : Aside (EAt w1 g0 0 0 0 0 (.slice none 0 0) 0 false ∧ Stp [] w [] w1 ∧ (∀ j x, L[j]? = some x → w1.cell? ⟨gp, j, none⟩ = some (.string (st x))) ∧ g0 < gp ∧ gp < w1.heap.size) := ⟨H0.out.1.other s1 (by simp), H0.out.2.1.trans s1, hpcs, by have := H0.out.2.2; omega, hb2⟩
  clear H0 s1 ho hno hpcs hcell hb1 hb2 hL hp KC
  go_upto_region 3 with fail
  have H2 : Aside (EAt (w1.alloc (.cells #[.int .i64 0, .int .u32 0, .int .u8 0, .int .u8 0, .slice none 0 0, .int .i64 0, .bool false] 43)) g0 0 0 0 0 (.slice none 0 0) 0 false ∧ EAt (w1.alloc (.cells #[.int .i64 0, .int .u32 0, .int .u8 0, .int .u8 0, .slice none 0 0, .int .i64 0, .bool false] 43)) w1.heap.size 0 0 0 0 (.slice none 0 0) 0 false ∧ Stp [] w [] (w1.alloc (.cells #[.int .i64 0, .int .u32 0, .int .u8 0, .int .u8 0, .slice none 0 0, .int .i64 0, .bool false] 43)) ∧ (∀ j x, L[j]? = some x → (w1.alloc (.cells #[.int .i64 0, .int .u32 0, .int .u8 0, .int .u8 0, .slice none 0 0, .int .i64 0, .bool false] 43)).cell? ⟨gp, j, none⟩ = some (.string (st x))) ∧ (g0 < gp ∧ gp < w1.heap.size ∧ w1.heap.size < (w1.alloc (.cells #[.int .i64 0, .int .u32 0, .int .u8 0, .int .u8 0, .slice none 0 0, .int .i64 0, .bool false] 43)).heap.size)) :=
    ⟨H1.out.1.other (Stp.alloc [] _ _) (by simp), heap_alloc_new w1 _, H1.out.2.1.trans (Stp.alloc [] _ _), fun j x hx => ((Stp.alloc [] w1 (.cells #[.int .i64 0, .int .u32 0, .int .u8 0, .int .u8 0, .slice none 0 0, .int .i64 0, .bool false] 43)).cell (a := ⟨gp, j, none⟩) H1.out.2.2.2.2 (by simp)).trans (H1.out.2.2.1 j x hx), H1.out.2.2.2.1, H1.out.2.2.2.2, by simp⟩
  generalize w1.alloc (.cells #[.int .i64 0, .int .u32 0, .int .u8 0, .int .u8 0, .slice none 0 0, .int .i64 0, .bool false] 43) = w2 at *
  generalize w1.heap.size = g1 at *
  have c0 := H2.out.2.1.c0
  have c1 := H2.out.2.1.c1
  have c2 := H2.out.2.1.c2
  have c3 := H2.out.2.1.c3
  have c4 := H2.out.2.1.c4
  have c5 := H2.out.2.1.c5
  have c6 := H2.out.2.1.c6
  clear H1
  go_upto_region 4 with fail
  have H3 : Aside (T3 w (w2.alloc (.cells #[.int .i64 0, .int .u32 0, .int .u8 0, .int .u8 0, .slice none 0 0, .int .i64 0, .bool false] 43)) g0 g1 w2.heap.size gp L 0 0 0 0 (.slice none 0 0) 0 false) :=
    ⟨H2.out.1.other (Stp.alloc [] _ _) (by simp), H2.out.2.1.other (Stp.alloc [] _ _) (by simp), heap_alloc_new w2 _, H2.out.2.2.1.trans (Stp.alloc [] _ _), fun j x hx => ((Stp.alloc [] w2 (.cells #[.int .i64 0, .int .u32 0, .int .u8 0, .int .u8 0, .slice none 0 0, .int .i64 0, .bool false] 43)).cell (a := ⟨gp, j, none⟩) (Nat.lt_trans H2.out.2.2.2.2.2.1 H2.out.2.2.2.2.2.2) (by simp)).trans (H2.out.2.2.2.1 j x hx), by rw [HG.out]; exact Nat.le_refl _, H2.out.2.2.2.2.1, H2.out.2.2.2.2.2.1, H2.out.2.2.2.2.2.2, by have := H2.out.2.2.2.2; simp; omega⟩
  generalize w2.alloc (.cells #[.int .i64 0, .int .u32 0, .int .u8 0, .int .u8 0, .slice none 0 0, .int .i64 0, .bool false] 43) = w3 at *
  generalize w2.heap.size = g2 at *
  clear H2 c0 c1 c2 c3 c4 c5 c6
  have hLL : L = a :: b :: R := HL.out.1.trans HLL.out
  have d0 : w3.cell? ⟨gp, 0, none⟩ = some (.string (st a)) := H3.out.p 0 a (by rw [hLL]; rfl)
  have d1 : w3.cell? ⟨gp, 1, none⟩ = some (.string (st b)) := H3.out.p 1 b (by rw [hLL]; rfl)
  have hpR : p = R.length + 2 := by rw [HL.out.2, hLL]; rfl
  have hp2 : ¬ (p : Int) < 2 := by omega
  have hp0 : (0 : Int) < (p : Int) := by omega
  have hp1 : (1 : Int) < (p : Int) := by omega
  have HR := Lib.hid (And.intro hLL hpR)
  clear hLL hpR
  obtain ⟨q, hq⟩ : ∃ q, p = q + 1 := ⟨p - 1, by have := HR.out.2; omega⟩
  obtain ⟨z, hz⟩ : ∃ z, L[q]? = some z := ⟨L[q]'(by have := HL.out.2; omega), List.getElem?_eq_getElem _⟩
  have hzl : z.length ≤ 2000 := by have h1 := spl_mem_len 32 s z (by rw [← HL.out.1]; exact List.mem_of_getElem? hz); omega
  have KN := Lib.hid (fun W => rnum18_run z (by omega) W)
  obtain ⟨nz, hnz⟩ : ∃ nz, nz = rz (rnum 10 18 z) := ⟨_, rfl⟩
  rw [← hnz] at KN
  have HN := Lib.hid (And.intro hz (And.intro hnz hq))
  have hsub : IntKind.i64.wrap ((p : Int) - 1) = (q : Int) := by rw [IntKind.wrap_i64]; have := hcm; simp [maxLen] at this; omega
  have hq0 : (0 : Int) ≤ (q : Int) := by omega
  have hqp : (q : Int) < (p : Int) := by omega
  clear hz hnz hq hzl
  have k0 := H3.out.e.c6
  have k1 := H3.out.e.fz 6
  go_upto_region 13 with fail
  have H4 : Aside (T3 w (w3.setCell ⟨g1, 6, none⟩ (.bool true)) g0 g1 g2 gp L 0 0 0 0 (.slice none 0 0) 0 true) := H3.out.act (stp_one _ _ _ _) (H3.out.e.setO true)
  generalize w3.setCell ⟨g1, 6, none⟩ (.bool true) = w4 at *
  clear H3 k0 k1 d0 d1
  have d2 : w4.cell? ⟨gp, q, none⟩ = some (.string (st z)) := H4.out.p q z HN.out.1
  have d0 : w4.cell? ⟨gp, 0, none⟩ = some (.string (st a)) := H4.out.p 0 a (by rw [HR.out.1]; rfl)
  go_wp2_with fail
  refine (KN.out _).mono ?_
  rintro _ w4 ⟨rfl, rfl⟩
  clear KN d2
  have h5 : p = 5 := by have h1 := HR.out.2; rw [HXhR.out] at h1; exact h1
  have hpe : ((p : Int) != 5) = false := by rw [h5]; rfl
  have hp2' : (2 : Int) < (p : Int) := by omega
  have hp3' : (3 : Int) < (p : Int) := by omega
  have hp4' : (4 : Int) < (p : Int) := by omega
  have hlen : c.length ≤ 2000 ∧ d.length ≤ 2000 ∧ e.length ≤ 2000 := by
    refine ⟨?_, ?_, ?_⟩
    · have h1 := spl_mem_len 32 s c (by rw [← HL.out.1, HR.out.1, HXhR.out]; simp); omega
    · have h1 := spl_mem_len 32 s d (by rw [← HL.out.1, HR.out.1, HXhR.out]; simp); omega
    · have h1 := spl_mem_len 32 s e (by rw [← HL.out.1, HR.out.1, HXhR.out]; simp); omega
  clear h5
  have hTl : T.length ≤ 3000 := by
    have h1 := spl_glue 32 s
    rw [← HL.out.1, HR.out.1, HXhR.out] at h1
    have h2 := congrArg List.length h1
    rw [HXhT.out]
    simp [Lib.join] at h2 ⊢
    omega
  go_upto_region 21 with fail
  obtain ⟨S0, hS0⟩ : ∃ S, S = st c := ⟨_, rfl⟩
  obtain ⟨Sd, hSd⟩ : ∃ S, S = st d := ⟨_, rfl⟩
  obtain ⟨Se, hSe⟩ : ∃ S, S = st e := ⟨_, rfl⟩
  obtain ⟨S1, e1⟩ : ∃ S, S0 ++ (⟨#[32]⟩ : ByteArray) = S := ⟨_, rfl⟩
  obtain ⟨S2, e2⟩ : ∃ S, S1 ++ Sd = S := ⟨_, rfl⟩
  obtain ⟨S3, e3⟩ : ∃ S, S2 ++ (⟨#[32]⟩ : ByteArray) = S := ⟨_, rfl⟩
  obtain ⟨S4, e4⟩ : ∃ S, S3 ++ Se = S := ⟨_, rfl⟩
  have hs32 : (⟨#[32]⟩ : ByteArray) = st [32] := rfl
  have g1' : S1 = st (c ++ [32]) := by rw [← e1, hS0, hs32, st_append]
  have g2' : S2 = st (c ++ [32] ++ d) := by rw [← e2, g1', hSd, st_append]
  have g3' : S3 = st (c ++ [32] ++ d ++ [32]) := by rw [← e3, g2', hs32, st_append]
  have g4' : S4 = st T := by rw [← e4, g3', hSe, st_append, HXhT.out]; simp
  have n0 : S0.size = c.length := by rw [hS0, st_size]
  have nd : Sd.size = d.length := by rw [hSd, st_size]
  have ne : Se.size = e.length := by rw [hSe, st_size]
  have n1 : S1.size = c.length + 1 := by rw [g1', st_size]; simp
  have n2 : S2.size = c.length + 1 + d.length := by rw [g2', st_size]; simp; omega
  have n3 : S3.size = c.length + 1 + d.length + 1 := by rw [g3', st_size]; simp; omega
  have hr1 : ¬ 9223372036854775807 < S0.size + 1 := by omega
  have hr1b : ¬ 9223372036854775807 < S0.size + (⟨#[32]⟩ : ByteArray).size := hr1
  have hr2 : ¬ 9223372036854775807 < S1.size + Sd.size := by omega
  have hr3 : ¬ 9223372036854775807 < S2.size + 1 := by omega
  have hr3b : ¬ 9223372036854775807 < S2.size + (⟨#[32]⟩ : ByteArray).size := hr3
  have hr4 : ¬ 9223372036854775807 < S3.size + Se.size := by omega
  have KR : ∀ W', Stp [] w4 [] W' → Calls Tryz.prog 39 #[.string S4] W' fun en w' => en = .returned (.tuple #[.agg #[.int .u32 (0 : Int), .int .u8 (0 : Int), .int .u8 (0 : Int)], .int .i64 8]) ∧ Stp [] w4 [] w' := fun W' hs => by
    have h := rread_run T hTl W'
    rw [HXhrv.out, ← g4'] at h
    exact h.mono fun _ _ ⟨h1, h2⟩ => ⟨h1, hs.trans h2⟩
  have KR := Lib.hid KR
  have HC : Aside (∀ W', Stp [] w4 [] W' → W'.cell? ⟨gp, 2, none⟩ = some (.string S0) ∧ W'.cell? ⟨gp, 3, none⟩ = some (.string Sd) ∧ W'.cell? ⟨gp, 4, none⟩ = some (.string Se)) := fun W' hs => by
    have q := (H4.out.stays hs).p
    exact ⟨by rw [hS0]; exact q 2 c (by rw [HR.out.1, HXhR.out]; rfl), by rw [hSd]; exact q 3 d (by rw [HR.out.1, HXhR.out]; rfl), by rw [hSe]; exact q 4 e (by rw [HR.out.1, HXhR.out]; rfl)⟩
  have HC2 : Aside (∀ W', Stp [] w4 [] W' → T3 w (((W'.setCell ⟨g1, 1, none⟩ (.int .u32 (0 : Int))).setCell ⟨g1, 2, none⟩ (.int .u8 (0 : Int))).setCell ⟨g1, 3, none⟩ (.int .u8 (0 : Int))) g0 g1 g2 gp L 0 0 0 0 (.slice none 0 0) 0 true) := fun W' hs =>
    (H4.out.stays hs).act (((stp_one _ _ _ _).trans (stp_one _ _ _ _)).trans (stp_one _ _ _ _)) ((H4.out.stays hs).e.setA 0 0 0)
  have HC3 : Aside (∀ W', Stp [] w4 [] W' → (((W'.setCell ⟨g1, 1, none⟩ (.int .u32 (0 : Int))).setCell ⟨g1, 2, none⟩ (.int .u8 (0 : Int))).setCell ⟨g1, 3, none⟩ (.int .u8 (0 : Int))).cell? ⟨gp, 2, none⟩ = some (.string S0) ∧ (((W'.setCell ⟨g1, 1, none⟩ (.int .u32 (0 : Int))).setCell ⟨g1, 2, none⟩ (.int .u8 (0 : Int))).setCell ⟨g1, 3, none⟩ (.int .u8 (0 : Int))).cell? ⟨gp, 3, none⟩ = some (.string Sd) ∧ (((W'.setCell ⟨g1, 1, none⟩ (.int .u32 (0 : Int))).setCell ⟨g1, 2, none⟩ (.int .u8 (0 : Int))).setCell ⟨g1, 3, none⟩ (.int .u8 (0 : Int))).cell? ⟨gp, 4, none⟩ = some (.string Se)) := fun W' hs => by
    have q := (HC2.out W' hs).p
    exact ⟨by rw [hS0]; exact q 2 c (by rw [HR.out.1, HXhR.out]; rfl), by rw [hSd]; exact q 3 d (by rw [HR.out.1, HXhR.out]; rfl), by rw [hSe]; exact q 4 e (by rw [HR.out.1, HXhR.out]; rfl)⟩
  have hcur : Stp [] w4 [] w4.drew := Stp.drew _ _
  clear hS0 hSd hSe hs32 g1' g2' g3' g4' n0 nd ne n1 n2 n3 hlen hTl d0
  go_region_held3 (fun W' => W'.cell? ⟨gp, 2, none⟩ = some (.string S0) ∧ W'.cell? ⟨gp, 3, none⟩ = some (.string Sd) ∧ W'.cell? ⟨gp, 4, none⟩ = some (.string Se))
    (first | exact HC.out _ hcur | exact HC3.out _ hcur | assumption)
    (first
      | (go_at_call 39
         refine (KR.out _ hcur).mono ?_
         rintro _ w5 ⟨rfl, s5⟩
         replace hcur := s5
         have b1 := (H4.out.stays s5).e.c1
         have b2 := (H4.out.stays s5).e.c2
         have b3 := (H4.out.stays s5).e.c3
         have y1 := (H4.out.stays s5).e.fz 1
         have y2 := (H4.out.stays s5).e.fz 2
         have y3 := (H4.out.stays s5).e.fz 3))
  have H5 := HC2.out _ hcur
  have H5 : Aside (T3 w (((w5.setCell ⟨g1, 1, none⟩ (.int .u32 (0 : Int))).setCell ⟨g1, 2, none⟩ (.int .u8 (0 : Int))).setCell ⟨g1, 3, none⟩ (.int .u8 (0 : Int))) g0 g1 g2 gp L 0 0 0 0 (.slice none 0 0) 0 true) := H5
  generalize ((w5.setCell ⟨g1, 1, none⟩ (.int .u32 (0 : Int))).setCell ⟨g1, 2, none⟩ (.int .u8 (0 : Int))).setCell ⟨g1, 3, none⟩ (.int .u8 (0 : Int)) = w6 at *
  clear b1 b2 b3 y1 y2 y3 HC HC2 HC3 KR H4 hcur e1 e2 e3 e4 hr1 hr1b hr2 hr3 hr3b hr4
  have d0 : w6.cell? ⟨gp, 0, none⟩ = some (.string (st a)) := H5.out.p 0 a (by rw [HR.out.1]; rfl)
  go_upto_region 39 with fail
  clear d0
  have c0 := H5.out.r.c0
  have c1 := H5.out.r.c1
  have c2 := H5.out.r.c2
  have c3 := H5.out.r.c3
  have c4 := H5.out.r.c4
  have c5 := H5.out.r.c5
  have c6 := H5.out.r.c6
  have e0 := H5.out.z.c0
  have e1 := H5.out.z.c1
  have e2 := H5.out.z.c2
  have e3 := H5.out.z.c3
  have e4 := H5.out.z.c4
  have e5 := H5.out.z.c5
  have e6 := H5.out.z.c6
  have z0 := H5.out.r.fz 0
  have z1 := H5.out.r.fz 1
  have z2 := H5.out.r.fz 2
  have z3 := H5.out.r.fz 3
  have z4 := H5.out.r.fz 4
  have z5 := H5.out.r.fz 5
  have z6 := H5.out.r.fz 6
  go_wp2
  refine bodyPost_ret (res_eff2 rfl _ rfl (H5.out.r.set7 0 0 0 0 (.slice none 0 0) 0 false)) rfl ?_
  refine ⟨(H5.out.stp.fresh (stp7 _ _ _ _ _ _ _ _ _) (by have := H5.out.lo; simp; omega)).none, ?_⟩
  rw [HRF.out]
  rfl

set_option maxHeartbeats 2000000 in
set_option maxRecDepth 100000 in
theorem rd_atwasyt (s : List UInt8) (hs : s.length ≤ 2000) (w : World) (h1 : s ≠ [101, 110, 100]) (h2 : s ≠ [104, 105, 115, 116, 111, 114, 121]) (a b : List UInt8) (R : List (List UInt8)) (hL : spl 32 s = a :: b :: R) (ha : a = [119, 97, 115]) (hb : b = [111, 107]) (c d e : List UInt8) (hR : R = [c, d, e]) (T : List UInt8) (hT : T = c ++ 32 :: (d ++ 32 :: e)) (hu : text (rdf T) (rdm T) (rdt T) = T) (f m t : Nat) (hf : rdf T = f) (hm : rdm T = m) (ht : rdt T = t) : Calls Tryz.prog 24 #[.string (st s)] w (EffTo (rf s) w) := by
  have HRF : Hid (rf s = some (1, { E0 with f := f, m := m, t := t, ok := true })) := Lib.hid (by
    unfold rf
    rw [if_neg h1, if_neg h2, hL]
    subst hR
    have hu2 := hu
    rw [hf, hm, ht] at hu2
    subst hT
    simp [rfL, ha, hb, tks, tk, hu, hf, hm, ht, hu2])
  have q1 : ((st s).toList == [101, 110, 100]) = false := by rw [st_toList]; exact beq_eq_false_iff_ne.2 h1
  have q2 : ((st s).toList == [104, 105, 115, 116, 111, 114, 121]) = false := by rw [st_toList]; exact beq_eq_false_iff_ne.2 h2
  have qagot : ((st a).toList == [103, 111, 116]) = false := by rw [st_toList, ha]; rfl
  have qawas : ((st a).toList == [119, 97, 115]) = true := by rw [st_toList, ha]; rfl
  have qawrote : ((st a).toList == [119, 114, 111, 116, 101]) = false := by rw [st_toList, ha]; rfl
  have qaread : ((st a).toList == [114, 101, 97, 100]) = false := by rw [st_toList, ha]; rfl
  have qasignal : ((st a).toList == [115, 105, 103, 110, 97, 108]) = false := by rw [st_toList, ha]; rfl
  have qb1 : ((st b).toList == [111, 107]) = true := by rw [st_toList, hb]; rfl
  have hrv : rv T = .tuple #[.agg #[.int .u32 (f : Int), .int .u8 (m : Int), .int .u8 (t : Int)], .int .i64 0] := by
    unfold rv
    rw [if_pos hu, hf, hm, ht]
    rfl
  clear hu hf hm ht
  have HXhR := Lib.hid hR
  have HXhT := Lib.hid hT
  have HXhrv := Lib.hid hrv
  clear hR hT hrv
  have HLL := Lib.hid hL
  clear hL h1 h2 ha hb
  have KC := Lib.hid (fun W => rcut_run s 32 (by omega) W)
  have cv : ((32 : UInt8).toNat : Int) = 32 := rfl
  rw [cv] at KC
  clear cv
  go_enter Tryz.func24, Tryz.ntmps24
  have H0 : Aside (EAt (w.alloc (.cells #[.int .i64 0, .int .u32 0, .int .u8 0, .int .u8 0, .slice none 0 0, .int .i64 0, .bool false] 43)) w.heap.size 0 0 0 0 (.slice none 0 0) 0 false ∧ Stp [] w [] (w.alloc (.cells #[.int .i64 0, .int .u32 0, .int .u8 0, .int .u8 0, .slice none 0 0, .int .i64 0, .bool false] 43)) ∧ (w.alloc (.cells #[.int .i64 0, .int .u32 0, .int .u8 0, .int .u8 0, .slice none 0 0, .int .i64 0, .bool false] 43)).heap.size = w.heap.size + 1) := ⟨heap_alloc_new w _, Stp.alloc [] w _, by simp⟩
  obtain ⟨g0, hg0⟩ : ∃ g0, g0 = w.heap.size := ⟨_, rfl⟩
  rw [← hg0] at H0
  go_upto_region 1 with fail
  rw [← hg0]
  have HG := Lib.hid hg0
  generalize w.alloc (.cells #[.int .i64 0, .int .u32 0, .int .u8 0, .int .u8 0, .slice none 0 0, .int .i64 0, .bool false] 43) = w0 at *
  clear hg0
  go_wp2_with fail
  refine (KC.out _).mono ?_
  rintro _ w1 ⟨v, rfl, ho, s1⟩
  obtain ⟨a, cap, rfl, hno, hpc, hcm, hcell⟩ := ho.form
  rcases a with _ | ad
  · exact absurd (hno rfl).2 (spl_ne 32 s)
  obtain ⟨gp, rfl, hb1, hb2, hpcs⟩ := hcell ad rfl
  obtain ⟨L, hL⟩ : ∃ L, L = spl 32 s := ⟨_, rfl⟩
  obtain ⟨p, hp⟩ : ∃ p, p = L.length := ⟨_, rfl⟩
  rw [← hL] at hpc hpcs ⊢
  rw [← hp] at hpc ⊢
  have HL := Lib.hid (And.intro hL hp)
  have H1 : Aside (EAt w1 g0 0 0 0 0 (.slice none 0 0) 0 false ∧ Stp [] w [] w1 ∧ (∀ j x, L[j]? = some x → w1.cell? ⟨gp, j, none⟩ = some (.string (st x))) ∧ g0 < gp ∧ gp < w1.heap.size) := ⟨H0.out.1.other s1 (by simp), H0.out.2.1.trans s1, hpcs, by have := H0.out.2.2; omega, hb2⟩
  clear H0 s1 ho hno hpcs hcell hb1 hb2 hL hp KC
  go_upto_region 3 with fail
  have H2 : Aside (EAt (w1.alloc (.cells #[.int .i64 0, .int .u32 0, .int .u8 0, .int .u8 0, .slice none 0 0, .int .i64 0, .bool false] 43)) g0 0 0 0 0 (.slice none 0 0) 0 false ∧ EAt (w1.alloc (.cells #[.int .i64 0, .int .u32 0, .int .u8 0, .int .u8 0, .slice none 0 0, .int .i64 0, .bool false] 43)) w1.heap.size 0 0 0 0 (.slice none 0 0) 0 false ∧ Stp [] w [] (w1.alloc (.cells #[.int .i64 0, .int .u32 0, .int .u8 0, .int .u8 0, .slice none 0 0, .int .i64 0, .bool false] 43)) ∧ (∀ j x, L[j]? = some x → (w1.alloc (.cells #[.int .i64 0, .int .u32 0, .int .u8 0, .int .u8 0, .slice none 0 0, .int .i64 0, .bool false] 43)).cell? ⟨gp, j, none⟩ = some (.string (st x))) ∧ (g0 < gp ∧ gp < w1.heap.size ∧ w1.heap.size < (w1.alloc (.cells #[.int .i64 0, .int .u32 0, .int .u8 0, .int .u8 0, .slice none 0 0, .int .i64 0, .bool false] 43)).heap.size)) :=
    ⟨H1.out.1.other (Stp.alloc [] _ _) (by simp), heap_alloc_new w1 _, H1.out.2.1.trans (Stp.alloc [] _ _), fun j x hx => ((Stp.alloc [] w1 (.cells #[.int .i64 0, .int .u32 0, .int .u8 0, .int .u8 0, .slice none 0 0, .int .i64 0, .bool false] 43)).cell (a := ⟨gp, j, none⟩) H1.out.2.2.2.2 (by simp)).trans (H1.out.2.2.1 j x hx), H1.out.2.2.2.1, H1.out.2.2.2.2, by simp⟩
  generalize w1.alloc (.cells #[.int .i64 0, .int .u32 0, .int .u8 0, .int .u8 0, .slice none 0 0, .int .i64 0, .bool false] 43) = w2 at *
  generalize w1.heap.size = g1 at *
  have c0 := H2.out.2.1.c0
  have c1 := H2.out.2.1.c1
  have c2 := H2.out.2.1.c2
  have c3 := H2.out.2.1.c3
  have c4 := H2.out.2.1.c4
  have c5 := H2.out.2.1.c5
  have c6 := H2.out.2.1.c6
  clear H1
  go_upto_region 4 with fail
  have H3 : Aside (T3 w (w2.alloc (.cells #[.int .i64 0, .int .u32 0, .int .u8 0, .int .u8 0, .slice none 0 0, .int .i64 0, .bool false] 43)) g0 g1 w2.heap.size gp L 0 0 0 0 (.slice none 0 0) 0 false) :=
    ⟨H2.out.1.other (Stp.alloc [] _ _) (by simp), H2.out.2.1.other (Stp.alloc [] _ _) (by simp), heap_alloc_new w2 _, H2.out.2.2.1.trans (Stp.alloc [] _ _), fun j x hx => ((Stp.alloc [] w2 (.cells #[.int .i64 0, .int .u32 0, .int .u8 0, .int .u8 0, .slice none 0 0, .int .i64 0, .bool false] 43)).cell (a := ⟨gp, j, none⟩) (Nat.lt_trans H2.out.2.2.2.2.2.1 H2.out.2.2.2.2.2.2) (by simp)).trans (H2.out.2.2.2.1 j x hx), by rw [HG.out]; exact Nat.le_refl _, H2.out.2.2.2.2.1, H2.out.2.2.2.2.2.1, H2.out.2.2.2.2.2.2, by have := H2.out.2.2.2.2; simp; omega⟩
  generalize w2.alloc (.cells #[.int .i64 0, .int .u32 0, .int .u8 0, .int .u8 0, .slice none 0 0, .int .i64 0, .bool false] 43) = w3 at *
  generalize w2.heap.size = g2 at *
  clear H2 c0 c1 c2 c3 c4 c5 c6
  have hLL : L = a :: b :: R := HL.out.1.trans HLL.out
  have d0 : w3.cell? ⟨gp, 0, none⟩ = some (.string (st a)) := H3.out.p 0 a (by rw [hLL]; rfl)
  have d1 : w3.cell? ⟨gp, 1, none⟩ = some (.string (st b)) := H3.out.p 1 b (by rw [hLL]; rfl)
  have hpR : p = R.length + 2 := by rw [HL.out.2, hLL]; rfl
  have hp2 : ¬ (p : Int) < 2 := by omega
  have hp0 : (0 : Int) < (p : Int) := by omega
  have hp1 : (1 : Int) < (p : Int) := by omega
  have HR := Lib.hid (And.intro hLL hpR)
  clear hLL hpR
  obtain ⟨q, hq⟩ : ∃ q, p = q + 1 := ⟨p - 1, by have := HR.out.2; omega⟩
  obtain ⟨z, hz⟩ : ∃ z, L[q]? = some z := ⟨L[q]'(by have := HL.out.2; omega), List.getElem?_eq_getElem _⟩
  have hzl : z.length ≤ 2000 := by have h1 := spl_mem_len 32 s z (by rw [← HL.out.1]; exact List.mem_of_getElem? hz); omega
  have KN := Lib.hid (fun W => rnum18_run z (by omega) W)
  obtain ⟨nz, hnz⟩ : ∃ nz, nz = rz (rnum 10 18 z) := ⟨_, rfl⟩
  rw [← hnz] at KN
  have HN := Lib.hid (And.intro hz (And.intro hnz hq))
  have hsub : IntKind.i64.wrap ((p : Int) - 1) = (q : Int) := by rw [IntKind.wrap_i64]; have := hcm; simp [maxLen] at this; omega
  have hq0 : (0 : Int) ≤ (q : Int) := by omega
  have hqp : (q : Int) < (p : Int) := by omega
  clear hz hnz hq hzl
  have k0 := H3.out.e.c6
  have k1 := H3.out.e.fz 6
  go_upto_region 13 with fail
  have H4 : Aside (T3 w (w3.setCell ⟨g1, 6, none⟩ (.bool true)) g0 g1 g2 gp L 0 0 0 0 (.slice none 0 0) 0 true) := H3.out.act (stp_one _ _ _ _) (H3.out.e.setO true)
  generalize w3.setCell ⟨g1, 6, none⟩ (.bool true) = w4 at *
  clear H3 k0 k1 d0 d1
  have d2 : w4.cell? ⟨gp, q, none⟩ = some (.string (st z)) := H4.out.p q z HN.out.1
  have d0 : w4.cell? ⟨gp, 0, none⟩ = some (.string (st a)) := H4.out.p 0 a (by rw [HR.out.1]; rfl)
  go_wp2_with fail
  refine (KN.out _).mono ?_
  rintro _ w4 ⟨rfl, rfl⟩
  clear KN d2
  have h5 : p = 5 := by have h1 := HR.out.2; rw [HXhR.out] at h1; exact h1
  have hpe : ((p : Int) != 5) = false := by rw [h5]; rfl
  have hp2' : (2 : Int) < (p : Int) := by omega
  have hp3' : (3 : Int) < (p : Int) := by omega
  have hp4' : (4 : Int) < (p : Int) := by omega
  have hlen : c.length ≤ 2000 ∧ d.length ≤ 2000 ∧ e.length ≤ 2000 := by
    refine ⟨?_, ?_, ?_⟩
    · have h1 := spl_mem_len 32 s c (by rw [← HL.out.1, HR.out.1, HXhR.out]; simp); omega
    · have h1 := spl_mem_len 32 s d (by rw [← HL.out.1, HR.out.1, HXhR.out]; simp); omega
    · have h1 := spl_mem_len 32 s e (by rw [← HL.out.1, HR.out.1, HXhR.out]; simp); omega
  clear h5
  have hTl : T.length ≤ 3000 := by
    have h1 := spl_glue 32 s
    rw [← HL.out.1, HR.out.1, HXhR.out] at h1
    have h2 := congrArg List.length h1
    rw [HXhT.out]
    simp [Lib.join] at h2 ⊢
    omega
  go_upto_region 21 with fail
  obtain ⟨S0, hS0⟩ : ∃ S, S = st c := ⟨_, rfl⟩
  obtain ⟨Sd, hSd⟩ : ∃ S, S = st d := ⟨_, rfl⟩
  obtain ⟨Se, hSe⟩ : ∃ S, S = st e := ⟨_, rfl⟩
  obtain ⟨S1, e1⟩ : ∃ S, S0 ++ (⟨#[32]⟩ : ByteArray) = S := ⟨_, rfl⟩
  obtain ⟨S2, e2⟩ : ∃ S, S1 ++ Sd = S := ⟨_, rfl⟩
  obtain ⟨S3, e3⟩ : ∃ S, S2 ++ (⟨#[32]⟩ : ByteArray) = S := ⟨_, rfl⟩
  obtain ⟨S4, e4⟩ : ∃ S, S3 ++ Se = S := ⟨_, rfl⟩
  have hs32 : (⟨#[32]⟩ : ByteArray) = st [32] := rfl
  have g1' : S1 = st (c ++ [32]) := by rw [← e1, hS0, hs32, st_append]
  have g2' : S2 = st (c ++ [32] ++ d) := by rw [← e2, g1', hSd, st_append]
  have g3' : S3 = st (c ++ [32] ++ d ++ [32]) := by rw [← e3, g2', hs32, st_append]
  have g4' : S4 = st T := by rw [← e4, g3', hSe, st_append, HXhT.out]; simp
  have n0 : S0.size = c.length := by rw [hS0, st_size]
  have nd : Sd.size = d.length := by rw [hSd, st_size]
  have ne : Se.size = e.length := by rw [hSe, st_size]
  have n1 : S1.size = c.length + 1 := by rw [g1', st_size]; simp
  have n2 : S2.size = c.length + 1 + d.length := by rw [g2', st_size]; simp; omega
  have n3 : S3.size = c.length + 1 + d.length + 1 := by rw [g3', st_size]; simp; omega
  have hr1 : ¬ 9223372036854775807 < S0.size + 1 := by omega
  have hr1b : ¬ 9223372036854775807 < S0.size + (⟨#[32]⟩ : ByteArray).size := hr1
  have hr2 : ¬ 9223372036854775807 < S1.size + Sd.size := by omega
  have hr3 : ¬ 9223372036854775807 < S2.size + 1 := by omega
  have hr3b : ¬ 9223372036854775807 < S2.size + (⟨#[32]⟩ : ByteArray).size := hr3
  have hr4 : ¬ 9223372036854775807 < S3.size + Se.size := by omega
  have KR : ∀ W', Stp [] w4 [] W' → Calls Tryz.prog 39 #[.string S4] W' fun en w' => en = .returned (.tuple #[.agg #[.int .u32 (f : Int), .int .u8 (m : Int), .int .u8 (t : Int)], .int .i64 0]) ∧ Stp [] w4 [] w' := fun W' hs => by
    have h := rread_run T hTl W'
    rw [HXhrv.out, ← g4'] at h
    exact h.mono fun _ _ ⟨h1, h2⟩ => ⟨h1, hs.trans h2⟩
  have KR := Lib.hid KR
  have HC : Aside (∀ W', Stp [] w4 [] W' → W'.cell? ⟨gp, 2, none⟩ = some (.string S0) ∧ W'.cell? ⟨gp, 3, none⟩ = some (.string Sd) ∧ W'.cell? ⟨gp, 4, none⟩ = some (.string Se)) := fun W' hs => by
    have q := (H4.out.stays hs).p
    exact ⟨by rw [hS0]; exact q 2 c (by rw [HR.out.1, HXhR.out]; rfl), by rw [hSd]; exact q 3 d (by rw [HR.out.1, HXhR.out]; rfl), by rw [hSe]; exact q 4 e (by rw [HR.out.1, HXhR.out]; rfl)⟩
  have HC2 : Aside (∀ W', Stp [] w4 [] W' → T3 w (((W'.setCell ⟨g1, 1, none⟩ (.int .u32 (f : Int))).setCell ⟨g1, 2, none⟩ (.int .u8 (m : Int))).setCell ⟨g1, 3, none⟩ (.int .u8 (t : Int))) g0 g1 g2 gp L 0 f m t (.slice none 0 0) 0 true) := fun W' hs =>
    (H4.out.stays hs).act (((stp_one _ _ _ _).trans (stp_one _ _ _ _)).trans (stp_one _ _ _ _)) ((H4.out.stays hs).e.setA f m t)
  have HC3 : Aside (∀ W', Stp [] w4 [] W' → (((W'.setCell ⟨g1, 1, none⟩ (.int .u32 (f : Int))).setCell ⟨g1, 2, none⟩ (.int .u8 (m : Int))).setCell ⟨g1, 3, none⟩ (.int .u8 (t : Int))).cell? ⟨gp, 2, none⟩ = some (.string S0) ∧ (((W'.setCell ⟨g1, 1, none⟩ (.int .u32 (f : Int))).setCell ⟨g1, 2, none⟩ (.int .u8 (m : Int))).setCell ⟨g1, 3, none⟩ (.int .u8 (t : Int))).cell? ⟨gp, 3, none⟩ = some (.string Sd) ∧ (((W'.setCell ⟨g1, 1, none⟩ (.int .u32 (f : Int))).setCell ⟨g1, 2, none⟩ (.int .u8 (m : Int))).setCell ⟨g1, 3, none⟩ (.int .u8 (t : Int))).cell? ⟨gp, 4, none⟩ = some (.string Se)) := fun W' hs => by
    have q := (HC2.out W' hs).p
    exact ⟨by rw [hS0]; exact q 2 c (by rw [HR.out.1, HXhR.out]; rfl), by rw [hSd]; exact q 3 d (by rw [HR.out.1, HXhR.out]; rfl), by rw [hSe]; exact q 4 e (by rw [HR.out.1, HXhR.out]; rfl)⟩
  have hcur : Stp [] w4 [] w4.drew := Stp.drew _ _
  clear hS0 hSd hSe hs32 g1' g2' g3' g4' n0 nd ne n1 n2 n3 hlen hTl d0
  go_region_held3 (fun W' => W'.cell? ⟨gp, 2, none⟩ = some (.string S0) ∧ W'.cell? ⟨gp, 3, none⟩ = some (.string Sd) ∧ W'.cell? ⟨gp, 4, none⟩ = some (.string Se))
    (first | exact HC.out _ hcur | exact HC3.out _ hcur | assumption)
    (first
      | (go_at_call 39
         refine (KR.out _ hcur).mono ?_
         rintro _ w5 ⟨rfl, s5⟩
         replace hcur := s5
         have b1 := (H4.out.stays s5).e.c1
         have b2 := (H4.out.stays s5).e.c2
         have b3 := (H4.out.stays s5).e.c3
         have y1 := (H4.out.stays s5).e.fz 1
         have y2 := (H4.out.stays s5).e.fz 2
         have y3 := (H4.out.stays s5).e.fz 3))
  have H5 := HC2.out _ hcur
  have H5 : Aside (T3 w (((w5.setCell ⟨g1, 1, none⟩ (.int .u32 (f : Int))).setCell ⟨g1, 2, none⟩ (.int .u8 (m : Int))).setCell ⟨g1, 3, none⟩ (.int .u8 (t : Int))) g0 g1 g2 gp L 0 f m t (.slice none 0 0) 0 true) := H5
  generalize ((w5.setCell ⟨g1, 1, none⟩ (.int .u32 (f : Int))).setCell ⟨g1, 2, none⟩ (.int .u8 (m : Int))).setCell ⟨g1, 3, none⟩ (.int .u8 (t : Int)) = w6 at *
  clear b1 b2 b3 y1 y2 y3 HC HC2 HC3 KR H4 hcur e1 e2 e3 e4 hr1 hr1b hr2 hr3 hr3b hr4
  have d0 : w6.cell? ⟨gp, 0, none⟩ = some (.string (st a)) := H5.out.p 0 a (by rw [HR.out.1]; rfl)
  go_upto_region 24 with fail
  have k0 := H5.out.e.c0
  have k1 := H5.out.e.fz 0
  go_upto_region 25 with fail
  have H6 : Aside (T3 w (w6.setCell ⟨g1, 0, none⟩ (.int .i64 1)) g0 g1 g2 gp L 1 f m t (.slice none 0 0) 0 true) := H5.out.act (stp_one _ _ _ _) (H5.out.e.setK 1)
  generalize w6.setCell ⟨g1, 0, none⟩ (.int .i64 1) = w7 at *
  clear H5 k0 k1
  go_upto_region 40 with fail
  clear d0
  have k0 := H6.out.e.c5
  have k1 := H6.out.e.fz 5
  go_upto_region 41 with fail
  have H8 : Aside (T3 w (w7.setCell ⟨g1, 5, none⟩ (.int .i64 0)) g0 g1 g2 gp L 1 f m t (.slice none 0 0) 0 true) := H6.out.act (stp_one _ _ _ _) (H6.out.e.setN 0)
  generalize w7.setCell ⟨g1, 5, none⟩ (.int .i64 0) = w8 at *
  clear H6 k0 k1
  have c0 := H8.out.r.c0
  have c1 := H8.out.r.c1
  have c2 := H8.out.r.c2
  have c3 := H8.out.r.c3
  have c4 := H8.out.r.c4
  have c5 := H8.out.r.c5
  have c6 := H8.out.r.c6
  have e0 := H8.out.e.c0
  have e1 := H8.out.e.c1
  have e2 := H8.out.e.c2
  have e3 := H8.out.e.c3
  have e4 := H8.out.e.c4
  have e5 := H8.out.e.c5
  have e6 := H8.out.e.c6
  have z0 := H8.out.r.fz 0
  have z1 := H8.out.r.fz 1
  have z2 := H8.out.r.fz 2
  have z3 := H8.out.r.fz 3
  have z4 := H8.out.r.fz 4
  have z5 := H8.out.r.fz 5
  have z6 := H8.out.r.fz 6
  go_wp2
  refine bodyPost_ret (res_eff2 rfl _ rfl (H8.out.r.set7 1 f m t (.slice none 0 0) 0 true)) rfl ?_
  refine ⟨(H8.out.stp.fresh (stp7 _ _ _ _ _ _ _ _ _) (by have := H8.out.lo; simp; omega)).none, ?_⟩
  rw [HRF.out]
  exact ⟨_, rfl, none, 0, rfl, Bts.nil _ _, Nat.le_refl _, fun _ => rfl, fun ad h => by cases h⟩

set_option maxHeartbeats 2000000 in
set_option maxRecDepth 100000 in
theorem rd_atwasnt (s : List UInt8) (hs : s.length ≤ 2000) (w : World) (h1 : s ≠ [101, 110, 100]) (h2 : s ≠ [104, 105, 115, 116, 111, 114, 121]) (a b : List UInt8) (R : List (List UInt8)) (hL : spl 32 s = a :: b :: R) (ha : a = [119, 97, 115]) (hb : b = [111, 107]) (c d e : List UInt8) (hR : R = [c, d, e]) (T : List UInt8) (hT : T = c ++ 32 :: (d ++ 32 :: e)) (hu : text (rdf T) (rdm T) (rdt T) ≠ T) : Calls Tryz.prog 24 #[.string (st s)] w (EffTo (rf s) w) := by
  have HRF : Hid (rf s = none) := Lib.hid (by
    unfold rf
    rw [if_neg h1, if_neg h2, hL]
    subst hR
    subst hT
    simp [rfL, ha, hb, tks, tk, hu])
  have q1 : ((st s).toList == [101, 110, 100]) = false := by rw [st_toList]; exact beq_eq_false_iff_ne.2 h1
  have q2 : ((st s).toList == [104, 105, 115, 116, 111, 114, 121]) = false := by rw [st_toList]; exact beq_eq_false_iff_ne.2 h2
  have qagot : ((st a).toList == [103, 111, 116]) = false := by rw [st_toList, ha]; rfl
  have qawas : ((st a).toList == [119, 97, 115]) = true := by rw [st_toList, ha]; rfl
  have qawrote : ((st a).toList == [119, 114, 111, 116, 101]) = false := by rw [st_toList, ha]; rfl
  have qaread : ((st a).toList == [114, 101, 97, 100]) = false := by rw [st_toList, ha]; rfl
  have qasignal : ((st a).toList == [115, 105, 103, 110, 97, 108]) = false := by rw [st_toList, ha]; rfl
  have qb1 : ((st b).toList == [111, 107]) = true := by rw [st_toList, hb]; rfl
  have hrv : rv T = .tuple #[.agg #[.int .u32 (0 : Int), .int .u8 (0 : Int), .int .u8 (0 : Int)], .int .i64 8] := by
    unfold rv
    rw [if_neg hu]
    rfl
  clear hu
  have HXhR := Lib.hid hR
  have HXhT := Lib.hid hT
  have HXhrv := Lib.hid hrv
  clear hR hT hrv
  have HLL := Lib.hid hL
  clear hL h1 h2 ha hb
  have KC := Lib.hid (fun W => rcut_run s 32 (by omega) W)
  have cv : ((32 : UInt8).toNat : Int) = 32 := rfl
  rw [cv] at KC
  clear cv
  go_enter Tryz.func24, Tryz.ntmps24
  have H0 : Aside (EAt (w.alloc (.cells #[.int .i64 0, .int .u32 0, .int .u8 0, .int .u8 0, .slice none 0 0, .int .i64 0, .bool false] 43)) w.heap.size 0 0 0 0 (.slice none 0 0) 0 false ∧ Stp [] w [] (w.alloc (.cells #[.int .i64 0, .int .u32 0, .int .u8 0, .int .u8 0, .slice none 0 0, .int .i64 0, .bool false] 43)) ∧ (w.alloc (.cells #[.int .i64 0, .int .u32 0, .int .u8 0, .int .u8 0, .slice none 0 0, .int .i64 0, .bool false] 43)).heap.size = w.heap.size + 1) := ⟨heap_alloc_new w _, Stp.alloc [] w _, by simp⟩
  obtain ⟨g0, hg0⟩ : ∃ g0, g0 = w.heap.size := ⟨_, rfl⟩
  rw [← hg0] at H0
  go_upto_region 1 with fail
  rw [← hg0]
  have HG := Lib.hid hg0
  generalize w.alloc (.cells #[.int .i64 0, .int .u32 0, .int .u8 0, .int .u8 0, .slice none 0 0, .int .i64 0, .bool false] 43) = w0 at *
  clear hg0
  go_wp2_with fail
  refine (KC.out _).mono ?_
  rintro _ w1 ⟨v, rfl, ho, s1⟩
  obtain ⟨a, cap, rfl, hno, hpc, hcm, hcell⟩ := ho.form
  rcases a with _ | ad
  · exact absurd (hno rfl).2 (spl_ne 32 s)
  obtain ⟨gp, rfl, hb1, hb2, hpcs⟩ := hcell ad rfl
  obtain ⟨L, hL⟩ : ∃ L, L = spl 32 s := ⟨_, rfl⟩
  obtain ⟨p, hp⟩ : ∃ p, p = L.length := ⟨_, rfl⟩
  rw [← hL] at hpc hpcs ⊢
  rw [← hp] at hpc ⊢
  have HL := Lib.hid (And.intro hL hp)
  have H1 : Aside (EAt w1 g0 0 0 0 0 (.slice none 0 0) 0 false ∧ Stp [] w [] w1 ∧ (∀ j x, L[j]? = some x → w1.cell? ⟨gp, j, none⟩ = some (.string (st x))) ∧ g0 < gp ∧ gp < w1.heap.size) := ⟨H0.out.1.other s1 (by simp), H0.out.2.1.trans s1, hpcs, by have := H0.out.2.2; omega, hb2⟩
  clear H0 s1 ho hno hpcs hcell hb1 hb2 hL hp KC
  go_upto_region 3 with fail
  have H2 : Aside (EAt (w1.alloc (.cells #[.int .i64 0, .int .u32 0, .int .u8 0, .int .u8 0, .slice none 0 0, .int .i64 0, .bool false] 43)) g0 0 0 0 0 (.slice none 0 0) 0 false ∧ EAt (w1.alloc (.cells #[.int .i64 0, .int .u32 0, .int .u8 0, .int .u8 0, .slice none 0 0, .int .i64 0, .bool false] 43)) w1.heap.size 0 0 0 0 (.slice none 0 0) 0 false ∧ Stp [] w [] (w1.alloc (.cells #[.int .i64 0, .int .u32 0, .int .u8 0, .int .u8 0, .slice none 0 0, .int .i64 0, .bool false] 43)) ∧ (∀ j x, L[j]? = some x → (w1.alloc (.cells #[.int .i64 0, .int .u32 0, .int .u8 0, .int .u8 0, .slice none 0 0, .int .i64 0, .bool false] 43)).cell? ⟨gp, j, none⟩ = some (.string (st x))) ∧ (g0 < gp ∧ gp < w1.heap.size ∧ w1.heap.size < (w1.alloc (.cells #[.int .i64 0, .int .u32 0, .int .u8 0, .int .u8 0, .slice none 0 0, .int .i64 0, .bool false] 43)).heap.size)) :=
    ⟨H1.out.1.other (Stp.alloc [] _ _) (by simp), heap_alloc_new w1 _, H1.out.2.1.trans (Stp.alloc [] _ _), fun j x hx => ((Stp.alloc [] w1 (.cells #[.int .i64 0, .int .u32 0, .int .u8 0, .int .u8 0, .slice none 0 0, .int .i64 0, .bool false] 43)).cell (a := ⟨gp, j, none⟩) H1.out.2.2.2.2 (by simp)).trans (H1.out.2.2.1 j x hx), H1.out.2.2.2.1, H1.out.2.2.2.2, by simp⟩
  generalize w1.alloc (.cells #[.int .i64 0, .int .u32 0, .int .u8 0, .int .u8 0, .slice none 0 0, .int .i64 0, .bool false] 43) = w2 at *
  generalize w1.heap.size = g1 at *
  have c0 := H2.out.2.1.c0
  have c1 := H2.out.2.1.c1
  have c2 := H2.out.2.1.c2
  have c3 := H2.out.2.1.c3
  have c4 := H2.out.2.1.c4
  have c5 := H2.out.2.1.c5
  have c6 := H2.out.2.1.c6
  clear H1
  go_upto_region 4 with fail
  have H3 : Aside (T3 w (w2.alloc (.cells #[.int .i64 0, .int .u32 0, .int .u8 0, .int .u8 0, .slice none 0 0, .int .i64 0, .bool false] 43)) g0 g1 w2.heap.size gp L 0 0 0 0 (.slice none 0 0) 0 false) :=
    ⟨H2.out.1.other (Stp.alloc [] _ _) (by simp), H2.out.2.1.other (Stp.alloc [] _ _) (by simp), heap_alloc_new w2 _, H2.out.2.2.1.trans (Stp.alloc [] _ _), fun j x hx => ((Stp.alloc [] w2 (.cells #[.int .i64 0, .int .u32 0, .int .u8 0, .int .u8 0, .slice none 0 0, .int .i64 0, .bool false] 43)).cell (a := ⟨gp, j, none⟩) (Nat.lt_trans H2.out.2.2.2.2.2.1 H2.out.2.2.2.2.2.2) (by simp)).trans (H2.out.2.2.2.1 j x hx), by rw [HG.out]; exact Nat.le_refl _, H2.out.2.2.2.2.1, H2.out.2.2.2.2.2.1, H2.out.2.2.2.2.2.2, by have := H2.out.2.2.2.2; simp; omega⟩
  generalize w2.alloc (.cells #[.int .i64 0, .int .u32 0, .int .u8 0, .int .u8 0, .slice none 0 0, .int .i64 0, .bool false] 43) = w3 at *
  generalize w2.heap.size = g2 at *
  clear H2 c0 c1 c2 c3 c4 c5 c6
  have hLL : L = a :: b :: R := HL.out.1.trans HLL.out
  have d0 : w3.cell? ⟨gp, 0, none⟩ = some (.string (st a)) := H3.out.p 0 a (by rw [hLL]; rfl)
  have d1 : w3.cell? ⟨gp, 1, none⟩ = some (.string (st b)) := H3.out.p 1 b (by rw [hLL]; rfl)
  have hpR : p = R.length + 2 := by rw [HL.out.2, hLL]; rfl
  have hp2 : ¬ (p : Int) < 2 := by omega
  have hp0 : (0 : Int) < (p : Int) := by omega
  have hp1 : (1 : Int) < (p : Int) := by omega
  have HR := Lib.hid (And.intro hLL hpR)
  clear hLL hpR
  obtain ⟨q, hq⟩ : ∃ q, p = q + 1 := ⟨p - 1, by have := HR.out.2; omega⟩
  obtain ⟨z, hz⟩ : ∃ z, L[q]? = some z := ⟨L[q]'(by have := HL.out.2; omega), List.getElem?_eq_getElem _⟩
  have hzl : z.length ≤ 2000 := by have h1 := spl_mem_len 32 s z (by rw [← HL.out.1]; exact List.mem_of_getElem? hz); omega
  have KN := Lib.hid (fun W => rnum18_run z (by omega) W)
  obtain ⟨nz, hnz⟩ : ∃ nz, nz = rz (rnum 10 18 z) := ⟨_, rfl⟩
  rw [← hnz] at KN
  have HN := Lib.hid (And.intro hz (And.intro hnz hq))
  have hsub : IntKind.i64.wrap ((p : Int) - 1) = (q : Int) := by rw [IntKind.wrap_i64]; have := hcm; simp [maxLen] at this; omega
  have hq0 : (0 : Int) ≤ (q : Int) := by omega
  have hqp : (q : Int) < (p : Int) := by omega
  clear hz hnz hq hzl
  have k0 := H3.out.e.c6
  have k1 := H3.out.e.fz 6
  go_upto_region 13 with fail
  have H4 : Aside (T3 w (w3.setCell ⟨g1, 6, none⟩ (.bool true)) g0 g1 g2 gp L 0 0 0 0 (.slice none 0 0) 0 true) := H3.out.act (stp_one _ _ _ _) (H3.out.e.setO true)
  generalize w3.setCell ⟨g1, 6, none⟩ (.bool true) = w4 at *
  clear H3 k0 k1 d0 d1
  have d2 : w4.cell? ⟨gp, q, none⟩ = some (.string (st z)) := H4.out.p q z HN.out.1
  have d0 : w4.cell? ⟨gp, 0, none⟩ = some (.string (st a)) := H4.out.p 0 a (by rw [HR.out.1]; rfl)
  go_wp2_with fail
  refine (KN.out _).mono ?_
  rintro _ w4 ⟨rfl, rfl⟩
  clear KN d2
  have h5 : p = 5 := by have h1 := HR.out.2; rw [HXhR.out] at h1; exact h1
  have hpe : ((p : Int) != 5) = false := by rw [h5]; rfl
  have hp2' : (2 : Int) < (p : Int) := by omega
  have hp3' : (3 : Int) < (p : Int) := by omega
  have hp4' : (4 : Int) < (p : Int) := by omega
  have hlen : c.length ≤ 2000 ∧ d.length ≤ 2000 ∧ e.length ≤ 2000 := by
    refine ⟨?_, ?_, ?_⟩
    · have h1 := spl_mem_len 32 s c (by rw [← HL.out.1, HR.out.1, HXhR.out]; simp); omega
    · have h1 := spl_mem_len 32 s d (by rw [← HL.out.1, HR.out.1, HXhR.out]; simp); omega
    · have h1 := spl_mem_len 32 s e (by rw [← HL.out.1, HR.out.1, HXhR.out]; simp); omega
  clear h5
  have hTl : T.length ≤ 3000 := by
    have h1 := spl_glue 32 s
    rw [← HL.out.1, HR.out.1, HXhR.out] at h1
    have h2 := congrArg List.length h1
    rw [HXhT.out]
    simp [Lib.join] at h2 ⊢
    omega
  go_upto_region 21 with fail
  obtain ⟨S0, hS0⟩ : ∃ S, S = st c := ⟨_, rfl⟩
  obtain ⟨Sd, hSd⟩ : ∃ S, S = st d := ⟨_, rfl⟩
  obtain ⟨Se, hSe⟩ : ∃ S, S = st e := ⟨_, rfl⟩
  obtain ⟨S1, e1⟩ : ∃ S, S0 ++ (⟨#[32]⟩ : ByteArray) = S := ⟨_, rfl⟩
  obtain ⟨S2, e2⟩ : ∃ S, S1 ++ Sd = S := ⟨_, rfl⟩
  obtain ⟨S3, e3⟩ : ∃ S, S2 ++ (⟨#[32]⟩ : ByteArray) = S := ⟨_, rfl⟩
  obtain ⟨S4, e4⟩ : ∃ S, S3 ++ Se = S := ⟨_, rfl⟩
  have hs32 : (⟨#[32]⟩ : ByteArray) = st [32] := rfl
  have g1' : S1 = st (c ++ [32]) := by rw [← e1, hS0, hs32, st_append]
  have g2' : S2 = st (c ++ [32] ++ d) := by rw [← e2, g1', hSd, st_append]
  have g3' : S3 = st (c ++ [32] ++ d ++ [32]) := by rw [← e3, g2', hs32, st_append]
  have g4' : S4 = st T := by rw [← e4, g3', hSe, st_append, HXhT.out]; simp
  have n0 : S0.size = c.length := by rw [hS0, st_size]
  have nd : Sd.size = d.length := by rw [hSd, st_size]
  have ne : Se.size = e.length := by rw [hSe, st_size]
  have n1 : S1.size = c.length + 1 := by rw [g1', st_size]; simp
  have n2 : S2.size = c.length + 1 + d.length := by rw [g2', st_size]; simp; omega
  have n3 : S3.size = c.length + 1 + d.length + 1 := by rw [g3', st_size]; simp; omega
  have hr1 : ¬ 9223372036854775807 < S0.size + 1 := by omega
  have hr1b : ¬ 9223372036854775807 < S0.size + (⟨#[32]⟩ : ByteArray).size := hr1
  have hr2 : ¬ 9223372036854775807 < S1.size + Sd.size := by omega
  have hr3 : ¬ 9223372036854775807 < S2.size + 1 := by omega
  have hr3b : ¬ 9223372036854775807 < S2.size + (⟨#[32]⟩ : ByteArray).size := hr3
  have hr4 : ¬ 9223372036854775807 < S3.size + Se.size := by omega
  have KR : ∀ W', Stp [] w4 [] W' → Calls Tryz.prog 39 #[.string S4] W' fun en w' => en = .returned (.tuple #[.agg #[.int .u32 (0 : Int), .int .u8 (0 : Int), .int .u8 (0 : Int)], .int .i64 8]) ∧ Stp [] w4 [] w' := fun W' hs => by
    have h := rread_run T hTl W'
    rw [HXhrv.out, ← g4'] at h
    exact h.mono fun _ _ ⟨h1, h2⟩ => ⟨h1, hs.trans h2⟩
  have KR := Lib.hid KR
  have HC : Aside (∀ W', Stp [] w4 [] W' → W'.cell? ⟨gp, 2, none⟩ = some (.string S0) ∧ W'.cell? ⟨gp, 3, none⟩ = some (.string Sd) ∧ W'.cell? ⟨gp, 4, none⟩ = some (.string Se)) := fun W' hs => by
    have q := (H4.out.stays hs).p
    exact ⟨by rw [hS0]; exact q 2 c (by rw [HR.out.1, HXhR.out]; rfl), by rw [hSd]; exact q 3 d (by rw [HR.out.1, HXhR.out]; rfl), by rw [hSe]; exact q 4 e (by rw [HR.out.1, HXhR.out]; rfl)⟩
  have HC2 : Aside (∀ W', Stp [] w4 [] W' → T3 w (((W'.setCell ⟨g1, 1, none⟩ (.int .u32 (0 : Int))).setCell ⟨g1, 2, none⟩ (.int .u8 (0 : Int))).setCell ⟨g1, 3, none⟩ (.int .u8 (0 : Int))) g0 g1 g2 gp L 0 0 0 0 (.slice none 0 0) 0 true) := fun W' hs =>
    (H4.out.stays hs).act (((stp_one _ _ _ _).trans (stp_one _ _ _ _)).trans (stp_one _ _ _ _)) ((H4.out.stays hs).e.setA 0 0 0)
  have HC3 : Aside (∀ W', Stp [] w4 [] W' → (((W'.setCell ⟨g1, 1, none⟩ (.int .u32 (0 : Int))).setCell ⟨g1, 2, none⟩ (.int .u8 (0 : Int))).setCell ⟨g1, 3, none⟩ (.int .u8 (0 : Int))).cell? ⟨gp, 2, none⟩ = some (.string S0) ∧ (((W'.setCell ⟨g1, 1, none⟩ (.int .u32 (0 : Int))).setCell ⟨g1, 2, none⟩ (.int .u8 (0 : Int))).setCell ⟨g1, 3, none⟩ (.int .u8 (0 : Int))).cell? ⟨gp, 3, none⟩ = some (.string Sd) ∧ (((W'.setCell ⟨g1, 1, none⟩ (.int .u32 (0 : Int))).setCell ⟨g1, 2, none⟩ (.int .u8 (0 : Int))).setCell ⟨g1, 3, none⟩ (.int .u8 (0 : Int))).cell? ⟨gp, 4, none⟩ = some (.string Se)) := fun W' hs => by
    have q := (HC2.out W' hs).p
    exact ⟨by rw [hS0]; exact q 2 c (by rw [HR.out.1, HXhR.out]; rfl), by rw [hSd]; exact q 3 d (by rw [HR.out.1, HXhR.out]; rfl), by rw [hSe]; exact q 4 e (by rw [HR.out.1, HXhR.out]; rfl)⟩
  have hcur : Stp [] w4 [] w4.drew := Stp.drew _ _
  clear hS0 hSd hSe hs32 g1' g2' g3' g4' n0 nd ne n1 n2 n3 hlen hTl d0
  go_region_held3 (fun W' => W'.cell? ⟨gp, 2, none⟩ = some (.string S0) ∧ W'.cell? ⟨gp, 3, none⟩ = some (.string Sd) ∧ W'.cell? ⟨gp, 4, none⟩ = some (.string Se))
    (first | exact HC.out _ hcur | exact HC3.out _ hcur | assumption)
    (first
      | (go_at_call 39
         refine (KR.out _ hcur).mono ?_
         rintro _ w5 ⟨rfl, s5⟩
         replace hcur := s5
         have b1 := (H4.out.stays s5).e.c1
         have b2 := (H4.out.stays s5).e.c2
         have b3 := (H4.out.stays s5).e.c3
         have y1 := (H4.out.stays s5).e.fz 1
         have y2 := (H4.out.stays s5).e.fz 2
         have y3 := (H4.out.stays s5).e.fz 3))
  have H5 := HC2.out _ hcur
  have H5 : Aside (T3 w (((w5.setCell ⟨g1, 1, none⟩ (.int .u32 (0 : Int))).setCell ⟨g1, 2, none⟩ (.int .u8 (0 : Int))).setCell ⟨g1, 3, none⟩ (.int .u8 (0 : Int))) g0 g1 g2 gp L 0 0 0 0 (.slice none 0 0) 0 true) := H5
  generalize ((w5.setCell ⟨g1, 1, none⟩ (.int .u32 (0 : Int))).setCell ⟨g1, 2, none⟩ (.int .u8 (0 : Int))).setCell ⟨g1, 3, none⟩ (.int .u8 (0 : Int)) = w6 at *
  clear b1 b2 b3 y1 y2 y3 HC HC2 HC3 KR H4 hcur e1 e2 e3 e4 hr1 hr1b hr2 hr3 hr3b hr4
  have d0 : w6.cell? ⟨gp, 0, none⟩ = some (.string (st a)) := H5.out.p 0 a (by rw [HR.out.1]; rfl)
  go_upto_region 24 with fail
  have k0 := H5.out.e.c0
  have k1 := H5.out.e.fz 0
  go_upto_region 25 with fail
  have H6 : Aside (T3 w (w6.setCell ⟨g1, 0, none⟩ (.int .i64 1)) g0 g1 g2 gp L 1 0 0 0 (.slice none 0 0) 0 true) := H5.out.act (stp_one _ _ _ _) (H5.out.e.setK 1)
  generalize w6.setCell ⟨g1, 0, none⟩ (.int .i64 1) = w7 at *
  clear H5 k0 k1
  go_upto_region 39 with fail
  clear d0
  have c0 := H6.out.r.c0
  have c1 := H6.out.r.c1
  have c2 := H6.out.r.c2
  have c3 := H6.out.r.c3
  have c4 := H6.out.r.c4
  have c5 := H6.out.r.c5
  have c6 := H6.out.r.c6
  have e0 := H6.out.z.c0
  have e1 := H6.out.z.c1
  have e2 := H6.out.z.c2
  have e3 := H6.out.z.c3
  have e4 := H6.out.z.c4
  have e5 := H6.out.z.c5
  have e6 := H6.out.z.c6
  have z0 := H6.out.r.fz 0
  have z1 := H6.out.r.fz 1
  have z2 := H6.out.r.fz 2
  have z3 := H6.out.r.fz 3
  have z4 := H6.out.r.fz 4
  have z5 := H6.out.r.fz 5
  have z6 := H6.out.r.fz 6
  go_wp2
  refine bodyPost_ret (res_eff2 rfl _ rfl (H6.out.r.set7 0 0 0 0 (.slice none 0 0) 0 false)) rfl ?_
  refine ⟨(H6.out.stp.fresh (stp7 _ _ _ _ _ _ _ _ _) (by have := H6.out.lo; simp; omega)).none, ?_⟩
  rw [HRF.out]
  rfl

set_option maxHeartbeats 2000000 in
set_option maxRecDepth 100000 in
theorem rd_atgotyf (s : List UInt8) (hs : s.length ≤ 2000) (w : World) (h1 : s ≠ [101, 110, 100]) (h2 : s ≠ [104, 105, 115, 116, 111, 114, 121]) (a b : List UInt8) (R : List (List UInt8)) (hL : spl 32 s = a :: b :: R) (ha : a = [103, 111, 116]) (hb : b = [102, 97, 105, 108]) (c d e : List UInt8) (hR : R = [c, d, e]) (T : List UInt8) (hT : T = c ++ 32 :: (d ++ 32 :: e)) (hu : text (rdf T) (rdm T) (rdt T) = T) (f m t : Nat) (hf : rdf T = f) (hm : rdm T = m) (ht : rdt T = t) : Calls Tryz.prog 24 #[.string (st s)] w (EffTo (rf s) w) := by
  have HRF : Hid (rf s = some (0, { E0 with f := f, m := m, t := t, ok := false })) := Lib.hid (by
    unfold rf
    rw [if_neg h1, if_neg h2, hL]
    subst hR
    have hu2 := hu
    rw [hf, hm, ht] at hu2
    subst hT
    simp [rfL, ha, hb, tks, tk, hu, hf, hm, ht, hu2])
  have q1 : ((st s).toList == [101, 110, 100]) = false := by rw [st_toList]; exact beq_eq_false_iff_ne.2 h1
  have q2 : ((st s).toList == [104, 105, 115, 116, 111, 114, 121]) = false := by rw [st_toList]; exact beq_eq_false_iff_ne.2 h2
  have qagot : ((st a).toList == [103, 111, 116]) = true := by rw [st_toList, ha]; rfl
  have qawas : ((st a).toList == [119, 97, 115]) = false := by rw [st_toList, ha]; rfl
  have qawrote : ((st a).toList == [119, 114, 111, 116, 101]) = false := by rw [st_toList, ha]; rfl
  have qaread : ((st a).toList == [114, 101, 97, 100]) = false := by rw [st_toList, ha]; rfl
  have qasignal : ((st a).toList == [115, 105, 103, 110, 97, 108]) = false := by rw [st_toList, ha]; rfl
  have qb1 : ((st b).toList == [111, 107]) = false := by rw [st_toList, hb]; rfl
  have qb2 : ((st b).toList == [102, 97, 105, 108]) = true := by rw [st_toList, hb]; rfl
  have hrv : rv T = .tuple #[.agg #[.int .u32 (f : Int), .int .u8 (m : Int), .int .u8 (t : Int)], .int .i64 0] := by
    unfold rv
    rw [if_pos hu, hf, hm, ht]
    rfl
  clear hu hf hm ht
  have HXhR := Lib.hid hR
  have HXhT := Lib.hid hT
  have HXhrv := Lib.hid hrv
  clear hR hT hrv
  have HLL := Lib.hid hL
  clear hL h1 h2 ha hb
  have KC := Lib.hid (fun W => rcut_run s 32 (by omega) W)
  have cv : ((32 : UInt8).toNat : Int) = 32 := rfl
  rw [cv] at KC
  clear cv
  go_enter Tryz.func24, Tryz.ntmps24
  have H0 : Aside (EAt (w.alloc (.cells #[.int .i64 0, .int .u32 0, .int .u8 0, .int .u8 0, .slice none 0 0, .int .i64 0, .bool false] 43)) w.heap.size 0 0 0 0 (.slice none 0 0) 0 false ∧ Stp [] w [] (w.alloc (.cells #[.int .i64 0, .int .u32 0, .int .u8 0, .int .u8 0, .slice none 0 0, .int .i64 0, .bool false] 43)) ∧ (w.alloc (.cells #[.int .i64 0, .int .u32 0, .int .u8 0, .int .u8 0, .slice none 0 0, .int .i64 0, .bool false] 43)).heap.size = w.heap.size + 1) := ⟨heap_alloc_new w _, Stp.alloc [] w _, by simp⟩
  obtain ⟨g0, hg0⟩ : ∃ g0, g0 = w.heap.size := ⟨_, rfl⟩
  rw [← hg0] at H0
  go_upto_region 1 with fail
  rw [← hg0]
  have HG := Lib.hid hg0
  generalize w.alloc (.cells #[.int .i64 0, .int .u32 0, .int .u8 0, .int .u8 0, .slice none 0 0, .int .i64 0, .bool false] 43) = w0 at *
  clear hg0
  go_wp2_with fail
  refine (KC.out _).mono ?_
  rintro _ w1 ⟨v, rfl, ho, s1⟩
  obtain ⟨a, cap, rfl, hno, hpc, hcm, hcell⟩ := ho.form
  rcases a with _ | ad
  · exact absurd (hno rfl).2 (spl_ne 32 s)
  obtain ⟨gp, rfl, hb1, hb2, hpcs⟩ := hcell ad rfl
  obtain ⟨L, hL⟩ : ∃ L, L = spl 32 s := ⟨_, rfl⟩
  obtain ⟨p, hp⟩ : ∃ p, p = L.length := ⟨_, rfl⟩
  rw [← hL] at hpc hpcs ⊢
  rw [← hp] at hpc ⊢
  have HL := Lib.hid (And.intro hL hp)
  have H1 : Aside (EAt w1 g0 0 0 0 0 (.slice none 0 0) 0 false ∧ Stp [] w [] w1 ∧ (∀ j x, L[j]? = some x → w1.cell? ⟨gp, j, none⟩ = some (.string (st x))) ∧ g0 < gp ∧ gp < w1.heap.size) := ⟨H0.out.1.other s1 (by simp), H0.out.2.1.trans s1, hpcs, by have := H0.out.2.2; omega, hb2⟩
  clear H0 s1 ho hno hpcs hcell hb1 hb2 hL hp KC
  go_upto_region 3 with fail
  have H2 : Aside (EAt (w1.alloc (.cells #[.int .i64 0, .int .u32 0, .int .u8 0, .int .u8 0, .slice none 0 0, .int .i64 0, .bool false] 43)) g0 0 0 0 0 (.slice none 0 0) 0 false ∧ EAt (w1.alloc (.cells #[.int .i64 0, .int .u32 0, .int .u8 0, .int .u8 0, .slice none 0 0, .int .i64 0, .bool false] 43)) w1.heap.size 0 0 0 0 (.slice none 0 0) 0 false ∧ Stp [] w [] (w1.alloc (.cells #[.int .i64 0, .int .u32 0, .int .u8 0, .int .u8 0, .slice none 0 0, .int .i64 0, .bool false] 43)) ∧ (∀ j x, L[j]? = some x → (w1.alloc (.cells #[.int .i64 0, .int .u32 0, .int .u8 0, .int .u8 0, .slice none 0 0, .int .i64 0, .bool false] 43)).cell? ⟨gp, j, none⟩ = some (.string (st x))) ∧ (g0 < gp ∧ gp < w1.heap.size ∧ w1.heap.size < (w1.alloc (.cells #[.int .i64 0, .int .u32 0, .int .u8 0, .int .u8 0, .slice none 0 0, .int .i64 0, .bool false] 43)).heap.size)) :=
    ⟨H1.out.1.other (Stp.alloc [] _ _) (by simp), heap_alloc_new w1 _, H1.out.2.1.trans (Stp.alloc [] _ _), fun j x hx => ((Stp.alloc [] w1 (.cells #[.int .i64 0, .int .u32 0, .int .u8 0, .int .u8 0, .slice none 0 0, .int .i64 0, .bool false] 43)).cell (a := ⟨gp, j, none⟩) H1.out.2.2.2.2 (by simp)).trans (H1.out.2.2.1 j x hx), H1.out.2.2.2.1, H1.out.2.2.2.2, by simp⟩
  generalize w1.alloc (.cells #[.int .i64 0, .int .u32 0, .int .u8 0, .int .u8 0, .slice none 0 0, .int .i64 0, .bool false] 43) = w2 at *
  generalize w1.heap.size = g1 at *
  have c0 := H2.out.2.1.c0
  have c1 := H2.out.2.1.c1
  have c2 := H2.out.2.1.c2
  have c3 := H2.out.2.1.c3
  have c4 := H2.out.2.1.c4
  have c5 := H2.out.2.1.c5
  have c6 := H2.out.2.1.c6
  clear H1
  go_upto_region 4 with fail
  have H3 : Aside (T3 w (w2.alloc (.cells #[.int .i64 0, .int .u32 0, .int .u8 0, .int .u8 0, .slice none 0 0, .int .i64 0, .bool false] 43)) g0 g1 w2.heap.size gp L 0 0 0 0 (.slice none 0 0) 0 false) :=
    ⟨H2.out.1.other (Stp.alloc [] _ _) (by simp), H2.out.2.1.other (Stp.alloc [] _ _) (by simp), heap_alloc_new w2 _, H2.out.2.2.1.trans (Stp.alloc [] _ _), fun j x hx => ((Stp.alloc [] w2 (.cells #[.int .i64 0, .int .u32 0, .int .u8 0, .int .u8 0, .slice none 0 0, .int .i64 0, .bool false] 43)).cell (a := ⟨gp, j, none⟩) (Nat.lt_trans H2.out.2.2.2.2.2.1 H2.out.2.2.2.2.2.2) (by simp)).trans (H2.out.2.2.2.1 j x hx), by rw [HG.out]; exact Nat.le_refl _, H2.out.2.2.2.2.1, H2.out.2.2.2.2.2.1, H2.out.2.2.2.2.2.2, by have := H2.out.2.2.2.2; simp; omega⟩
  generalize w2.alloc (.cells #[.int .i64 0, .int .u32 0, .int .u8 0, .int .u8 0, .slice none 0 0, .int .i64 0, .bool false] 43) = w3 at *
  generalize w2.heap.size = g2 at *
  clear H2 c0 c1 c2 c3 c4 c5 c6
  have hLL : L = a :: b :: R := HL.out.1.trans HLL.out
  have d0 : w3.cell? ⟨gp, 0, none⟩ = some (.string (st a)) := H3.out.p 0 a (by rw [hLL]; rfl)
  have d1 : w3.cell? ⟨gp, 1, none⟩ = some (.string (st b)) := H3.out.p 1 b (by rw [hLL]; rfl)
  have hpR : p = R.length + 2 := by rw [HL.out.2, hLL]; rfl
  have hp2 : ¬ (p : Int) < 2 := by omega
  have hp0 : (0 : Int) < (p : Int) := by omega
  have hp1 : (1 : Int) < (p : Int) := by omega
  have HR := Lib.hid (And.intro hLL hpR)
  clear hLL hpR
  obtain ⟨q, hq⟩ : ∃ q, p = q + 1 := ⟨p - 1, by have := HR.out.2; omega⟩
  obtain ⟨z, hz⟩ : ∃ z, L[q]? = some z := ⟨L[q]'(by have := HL.out.2; omega), List.getElem?_eq_getElem _⟩
  have hzl : z.length ≤ 2000 := by have h1 := spl_mem_len 32 s z (by rw [← HL.out.1]; exact List.mem_of_getElem? hz); omega
  have KN := Lib.hid (fun W => rnum18_run z (by omega) W)
  obtain ⟨nz, hnz⟩ : ∃ nz, nz = rz (rnum 10 18 z) := ⟨_, rfl⟩
  rw [← hnz] at KN
  have HN := Lib.hid (And.intro hz (And.intro hnz hq))
  have hsub : IntKind.i64.wrap ((p : Int) - 1) = (q : Int) := by rw [IntKind.wrap_i64]; have := hcm; simp [maxLen] at this; omega
  have hq0 : (0 : Int) ≤ (q : Int) := by omega
  have hqp : (q : Int) < (p : Int) := by omega
  clear hz hnz hq hzl
  have k0 := H3.out.e.c6
  have k1 := H3.out.e.fz 6
  go_upto_region 13 with fail
  have H4 : Aside (T3 w (w3.setCell ⟨g1, 6, none⟩ (.bool false)) g0 g1 g2 gp L 0 0 0 0 (.slice none 0 0) 0 false) := H3.out.act (stp_one _ _ _ _) (H3.out.e.setO false)
  generalize w3.setCell ⟨g1, 6, none⟩ (.bool false) = w4 at *
  clear H3 k0 k1 d0 d1
  have d2 : w4.cell? ⟨gp, q, none⟩ = some (.string (st z)) := H4.out.p q z HN.out.1
  have d0 : w4.cell? ⟨gp, 0, none⟩ = some (.string (st a)) := H4.out.p 0 a (by rw [HR.out.1]; rfl)
  go_wp2_with fail
  refine (KN.out _).mono ?_
  rintro _ w4 ⟨rfl, rfl⟩
  clear KN d2
  have h5 : p = 5 := by have h1 := HR.out.2; rw [HXhR.out] at h1; exact h1
  have hpe : ((p : Int) != 5) = false := by rw [h5]; rfl
  have hp2' : (2 : Int) < (p : Int) := by omega
  have hp3' : (3 : Int) < (p : Int) := by omega
  have hp4' : (4 : Int) < (p : Int) := by omega
  have hlen : c.length ≤ 2000 ∧ d.length ≤ 2000 ∧ e.length ≤ 2000 := by
    refine ⟨?_, ?_, ?_⟩
    · have h1 := spl_mem_len 32 s c (by rw [← HL.out.1, HR.out.1, HXhR.out]; simp); omega
    · have h1 := spl_mem_len 32 s d (by rw [← HL.out.1, HR.out.1, HXhR.out]; simp); omega
    · have h1 := spl_mem_len 32 s e (by rw [← HL.out.1, HR.out.1, HXhR.out]; simp); omega
  clear h5
  have hTl : T.length ≤ 3000 := by
    have h1 := spl_glue 32 s
    rw [← HL.out.1, HR.out.1, HXhR.out] at h1
    have h2 := congrArg List.length h1
    rw [HXhT.out]
    simp [Lib.join] at h2 ⊢
    omega
  go_upto_region 21 with fail
  obtain ⟨S0, hS0⟩ : ∃ S, S = st c := ⟨_, rfl⟩
  obtain ⟨Sd, hSd⟩ : ∃ S, S = st d := ⟨_, rfl⟩
  obtain ⟨Se, hSe⟩ : ∃ S, S = st e := ⟨_, rfl⟩
  obtain ⟨S1, e1⟩ : ∃ S, S0 ++ (⟨#[32]⟩ : ByteArray) = S := ⟨_, rfl⟩
  obtain ⟨S2, e2⟩ : ∃ S, S1 ++ Sd = S := ⟨_, rfl⟩
  obtain ⟨S3, e3⟩ : ∃ S, S2 ++ (⟨#[32]⟩ : ByteArray) = S := ⟨_, rfl⟩
  obtain ⟨S4, e4⟩ : ∃ S, S3 ++ Se = S := ⟨_, rfl⟩
  have hs32 : (⟨#[32]⟩ : ByteArray) = st [32] := rfl
  have g1' : S1 = st (c ++ [32]) := by rw [← e1, hS0, hs32, st_append]
  have g2' : S2 = st (c ++ [32] ++ d) := by rw [← e2, g1', hSd, st_append]
  have g3' : S3 = st (c ++ [32] ++ d ++ [32]) := by rw [← e3, g2', hs32, st_append]
  have g4' : S4 = st T := by rw [← e4, g3', hSe, st_append, HXhT.out]; simp
  have n0 : S0.size = c.length := by rw [hS0, st_size]
  have nd : Sd.size = d.length := by rw [hSd, st_size]
  have ne : Se.size = e.length := by rw [hSe, st_size]
  have n1 : S1.size = c.length + 1 := by rw [g1', st_size]; simp
  have n2 : S2.size = c.length + 1 + d.length := by rw [g2', st_size]; simp; omega
  have n3 : S3.size = c.length + 1 + d.length + 1 := by rw [g3', st_size]; simp; omega
  have hr1 : ¬ 9223372036854775807 < S0.size + 1 := by omega
  have hr1b : ¬ 9223372036854775807 < S0.size + (⟨#[32]⟩ : ByteArray).size := hr1
  have hr2 : ¬ 9223372036854775807 < S1.size + Sd.size := by omega
  have hr3 : ¬ 9223372036854775807 < S2.size + 1 := by omega
  have hr3b : ¬ 9223372036854775807 < S2.size + (⟨#[32]⟩ : ByteArray).size := hr3
  have hr4 : ¬ 9223372036854775807 < S3.size + Se.size := by omega
  have KR : ∀ W', Stp [] w4 [] W' → Calls Tryz.prog 39 #[.string S4] W' fun en w' => en = .returned (.tuple #[.agg #[.int .u32 (f : Int), .int .u8 (m : Int), .int .u8 (t : Int)], .int .i64 0]) ∧ Stp [] w4 [] w' := fun W' hs => by
    have h := rread_run T hTl W'
    rw [HXhrv.out, ← g4'] at h
    exact h.mono fun _ _ ⟨h1, h2⟩ => ⟨h1, hs.trans h2⟩
  have KR := Lib.hid KR
  have HC : Aside (∀ W', Stp [] w4 [] W' → W'.cell? ⟨gp, 2, none⟩ = some (.string S0) ∧ W'.cell? ⟨gp, 3, none⟩ = some (.string Sd) ∧ W'.cell? ⟨gp, 4, none⟩ = some (.string Se)) := fun W' hs => by
    have q := (H4.out.stays hs).p
    exact ⟨by rw [hS0]; exact q 2 c (by rw [HR.out.1, HXhR.out]; rfl), by rw [hSd]; exact q 3 d (by rw [HR.out.1, HXhR.out]; rfl), by rw [hSe]; exact q 4 e (by rw [HR.out.1, HXhR.out]; rfl)⟩
  have HC2 : Aside (∀ W', Stp [] w4 [] W' → T3 w (((W'.setCell ⟨g1, 1, none⟩ (.int .u32 (f : Int))).setCell ⟨g1, 2, none⟩ (.int .u8 (m : Int))).setCell ⟨g1, 3, none⟩ (.int .u8 (t : Int))) g0 g1 g2 gp L 0 f m t (.slice none 0 0) 0 false) := fun W' hs =>
    (H4.out.stays hs).act (((stp_one _ _ _ _).trans (stp_one _ _ _ _)).trans (stp_one _ _ _ _)) ((H4.out.stays hs).e.setA f m t)
  have HC3 : Aside (∀ W', Stp [] w4 [] W' → (((W'.setCell ⟨g1, 1, none⟩ (.int .u32 (f : Int))).setCell ⟨g1, 2, none⟩ (.int .u8 (m : Int))).setCell ⟨g1, 3, none⟩ (.int .u8 (t : Int))).cell? ⟨gp, 2, none⟩ = some (.string S0) ∧ (((W'.setCell ⟨g1, 1, none⟩ (.int .u32 (f : Int))).setCell ⟨g1, 2, none⟩ (.int .u8 (m : Int))).setCell ⟨g1, 3, none⟩ (.int .u8 (t : Int))).cell? ⟨gp, 3, none⟩ = some (.string Sd) ∧ (((W'.setCell ⟨g1, 1, none⟩ (.int .u32 (f : Int))).setCell ⟨g1, 2, none⟩ (.int .u8 (m : Int))).setCell ⟨g1, 3, none⟩ (.int .u8 (t : Int))).cell? ⟨gp, 4, none⟩ = some (.string Se)) := fun W' hs => by
    have q := (HC2.out W' hs).p
    exact ⟨by rw [hS0]; exact q 2 c (by rw [HR.out.1, HXhR.out]; rfl), by rw [hSd]; exact q 3 d (by rw [HR.out.1, HXhR.out]; rfl), by rw [hSe]; exact q 4 e (by rw [HR.out.1, HXhR.out]; rfl)⟩
  have hcur : Stp [] w4 [] w4.drew := Stp.drew _ _
  clear hS0 hSd hSe hs32 g1' g2' g3' g4' n0 nd ne n1 n2 n3 hlen hTl d0
  go_region_held3 (fun W' => W'.cell? ⟨gp, 2, none⟩ = some (.string S0) ∧ W'.cell? ⟨gp, 3, none⟩ = some (.string Sd) ∧ W'.cell? ⟨gp, 4, none⟩ = some (.string Se))
    (first | exact HC.out _ hcur | exact HC3.out _ hcur | assumption)
    (first
      | (go_at_call 39
         refine (KR.out _ hcur).mono ?_
         rintro _ w5 ⟨rfl, s5⟩
         replace hcur := s5
         have b1 := (H4.out.stays s5).e.c1
         have b2 := (H4.out.stays s5).e.c2
         have b3 := (H4.out.stays s5).e.c3
         have y1 := (H4.out.stays s5).e.fz 1
         have y2 := (H4.out.stays s5).e.fz 2
         have y3 := (H4.out.stays s5).e.fz 3))
  have H5 := HC2.out _ hcur
  have H5 : Aside (T3 w (((w5.setCell ⟨g1, 1, none⟩ (.int .u32 (f : Int))).setCell ⟨g1, 2, none⟩ (.int .u8 (m : Int))).setCell ⟨g1, 3, none⟩ (.int .u8 (t : Int))) g0 g1 g2 gp L 0 f m t (.slice none 0 0) 0 false) := H5
  generalize ((w5.setCell ⟨g1, 1, none⟩ (.int .u32 (f : Int))).setCell ⟨g1, 2, none⟩ (.int .u8 (m : Int))).setCell ⟨g1, 3, none⟩ (.int .u8 (t : Int)) = w6 at *
  clear b1 b2 b3 y1 y2 y3 HC HC2 HC3 KR H4 hcur e1 e2 e3 e4 hr1 hr1b hr2 hr3 hr3b hr4
  have d0 : w6.cell? ⟨gp, 0, none⟩ = some (.string (st a)) := H5.out.p 0 a (by rw [HR.out.1]; rfl)
  go_upto_region 40 with fail
  clear d0
  have k0 := H5.out.e.c5
  have k1 := H5.out.e.fz 5
  go_upto_region 41 with fail
  have H8 : Aside (T3 w (w6.setCell ⟨g1, 5, none⟩ (.int .i64 0)) g0 g1 g2 gp L 0 f m t (.slice none 0 0) 0 false) := H5.out.act (stp_one _ _ _ _) (H5.out.e.setN 0)
  generalize w6.setCell ⟨g1, 5, none⟩ (.int .i64 0) = w8 at *
  clear H5 k0 k1
  have c0 := H8.out.r.c0
  have c1 := H8.out.r.c1
  have c2 := H8.out.r.c2
  have c3 := H8.out.r.c3
  have c4 := H8.out.r.c4
  have c5 := H8.out.r.c5
  have c6 := H8.out.r.c6
  have e0 := H8.out.e.c0
  have e1 := H8.out.e.c1
  have e2 := H8.out.e.c2
  have e3 := H8.out.e.c3
  have e4 := H8.out.e.c4
  have e5 := H8.out.e.c5
  have e6 := H8.out.e.c6
  have z0 := H8.out.r.fz 0
  have z1 := H8.out.r.fz 1
  have z2 := H8.out.r.fz 2
  have z3 := H8.out.r.fz 3
  have z4 := H8.out.r.fz 4
  have z5 := H8.out.r.fz 5
  have z6 := H8.out.r.fz 6
  go_wp2
  refine bodyPost_ret (res_eff2 rfl _ rfl (H8.out.r.set7 0 f m t (.slice none 0 0) 0 false)) rfl ?_
  refine ⟨(H8.out.stp.fresh (stp7 _ _ _ _ _ _ _ _ _) (by have := H8.out.lo; simp; omega)).none, ?_⟩
  rw [HRF.out]
  exact ⟨_, rfl, none, 0, rfl, Bts.nil _ _, Nat.le_refl _, fun _ => rfl, fun ad h => by cases h⟩

set_option maxHeartbeats 2000000 in
set_option maxRecDepth 100000 in
theorem rd_atgotnf (s : List UInt8) (hs : s.length ≤ 2000) (w : World) (h1 : s ≠ [101, 110, 100]) (h2 : s ≠ [104, 105, 115, 116, 111, 114, 121]) (a b : List UInt8) (R : List (List UInt8)) (hL : spl 32 s = a :: b :: R) (ha : a = [103, 111, 116]) (hb : b = [102, 97, 105, 108]) (c d e : List UInt8) (hR : R = [c, d, e]) (T : List UInt8) (hT : T = c ++ 32 :: (d ++ 32 :: e)) (hu : text (rdf T) (rdm T) (rdt T) ≠ T) : Calls Tryz.prog 24 #[.string (st s)] w (EffTo (rf s) w) := by
  have HRF : Hid (rf s = none) := Lib.hid (by
    unfold rf
    rw [if_neg h1, if_neg h2, hL]
    subst hR
    subst hT
    simp [rfL, ha, hb, tks, tk, hu])
  have q1 : ((st s).toList == [101, 110, 100]) = false := by rw [st_toList]; exact beq_eq_false_iff_ne.2 h1
  have q2 : ((st s).toList == [104, 105, 115, 116, 111, 114, 121]) = false := by rw [st_toList]; exact beq_eq_false_iff_ne.2 h2
  have qagot : ((st a).toList == [103, 111, 116]) = true := by rw [st_toList, ha]; rfl
  have qawas : ((st a).toList == [119, 97, 115]) = false := by rw [st_toList, ha]; rfl
  have qawrote : ((st a).toList == [119, 114, 111, 116, 101]) = false := by rw [st_toList, ha]; rfl
  have qaread : ((st a).toList == [114, 101, 97, 100]) = false := by rw [st_toList, ha]; rfl
  have qasignal : ((st a).toList == [115, 105, 103, 110, 97, 108]) = false := by rw [st_toList, ha]; rfl
  have qb1 : ((st b).toList == [111, 107]) = false := by rw [st_toList, hb]; rfl
  have qb2 : ((st b).toList == [102, 97, 105, 108]) = true := by rw [st_toList, hb]; rfl
  have hrv : rv T = .tuple #[.agg #[.int .u32 (0 : Int), .int .u8 (0 : Int), .int .u8 (0 : Int)], .int .i64 8] := by
    unfold rv
    rw [if_neg hu]
    rfl
  clear hu
  have HXhR := Lib.hid hR
  have HXhT := Lib.hid hT
  have HXhrv := Lib.hid hrv
  clear hR hT hrv
  have HLL := Lib.hid hL
  clear hL h1 h2 ha hb
  have KC := Lib.hid (fun W => rcut_run s 32 (by omega) W)
  have cv : ((32 : UInt8).toNat : Int) = 32 := rfl
  rw [cv] at KC
  clear cv
  go_enter Tryz.func24, Tryz.ntmps24
  have H0 : Aside (EAt (w.alloc (.cells #[.int .i64 0, .int .u32 0, .int .u8 0, .int .u8 0, .slice none 0 0, .int .i64 0, .bool false] 43)) w.heap.size 0 0 0 0 (.slice none 0 0) 0 false ∧ Stp [] w [] (w.alloc (.cells #[.int .i64 0, .int .u32 0, .int .u8 0, .int .u8 0, .slice none 0 0, .int .i64 0, .bool false] 43)) ∧ (w.alloc (.cells #[.int .i64 0, .int .u32 0, .int .u8 0, .int .u8 0, .slice none 0 0, .int .i64 0, .bool false] 43)).heap.size = w.heap.size + 1) := ⟨heap_alloc_new w _, Stp.alloc [] w _, by simp⟩
  obtain ⟨g0, hg0⟩ : ∃ g0, g0 = w.heap.size := ⟨_, rfl⟩
  rw [← hg0] at H0
  go_upto_region 1 with fail
  rw [← hg0]
  have HG := Lib.hid hg0
  generalize w.alloc (.cells #[.int .i64 0, .int .u32 0, .int .u8 0, .int .u8 0, .slice none 0 0, .int .i64 0, .bool false] 43) = w0 at *
  clear hg0
  go_wp2_with fail
  refine (KC.out _).mono ?_
  rintro _ w1 ⟨v, rfl, ho, s1⟩
  obtain ⟨a, cap, rfl, hno, hpc, hcm, hcell⟩ := ho.form
  rcases a with _ | ad
  · exact absurd (hno rfl).2 (spl_ne 32 s)
  obtain ⟨gp, rfl, hb1, hb2, hpcs⟩ := hcell ad rfl
  obtain ⟨L, hL⟩ : ∃ L, L = spl 32 s := ⟨_, rfl⟩
  obtain ⟨p, hp⟩ : ∃ p, p = L.length := ⟨_, rfl⟩
  rw [← hL] at hpc hpcs ⊢
  rw [← hp] at hpc ⊢
  have HL := Lib.hid (And.intro hL hp)
  have H1 : Aside (EAt w1 g0 0 0 0 0 (.slice none 0 0) 0 false ∧ Stp [] w [] w1 ∧ (∀ j x, L[j]? = some x → w1.cell? ⟨gp, j, none⟩ = some (.string (st x))) ∧ g0 < gp ∧ gp < w1.heap.size) := ⟨H0.out.1.other s1 (by simp), H0.out.2.1.trans s1, hpcs, by have := H0.out.2.2; omega, hb2⟩
  clear H0 s1 ho hno hpcs hcell hb1 hb2 hL hp KC
  go_upto_region 3 with fail
  have H2 : Aside (EAt (w1.alloc (.cells #[.int .i64 0, .int .u32 0, .int .u8 0, .int .u8 0, .slice none 0 0, .int .i64 0, .bool false] 43)) g0 0 0 0 0 (.slice none 0 0) 0 false ∧ EAt (w1.alloc (.cells #[.int .i64 0, .int .u32 0, .int .u8 0, .int .u8 0, .slice none 0 0, .int .i64 0, .bool false] 43)) w1.heap.size 0 0 0 0 (.slice none 0 0) 0 false ∧ Stp [] w [] (w1.alloc (.cells #[.int .i64 0, .int .u32 0, .int .u8 0, .int .u8 0, .slice none 0 0, .int .i64 0, .bool false] 43)) ∧ (∀ j x, L[j]? = some x → (w1.alloc (.cells #[.int .i64 0, .int .u32 0, .int .u8 0, .int .u8 0, .slice none 0 0, .int .i64 0, .bool false] 43)).cell? ⟨gp, j, none⟩ = some (.string (st x))) ∧ (g0 < gp ∧ gp < w1.heap.size ∧ w1.heap.size < (w1.alloc (.cells #[.int .i64 0, .int .u32 0, .int .u8 0, .int .u8 0, .slice none 0 0, .int .i64 0, .bool false] 43)).heap.size)) :=
    ⟨H1.out.1.other (Stp.alloc [] _ _) (by simp), heap_alloc_new w1 _, H1.out.2.1.trans (Stp.alloc [] _ _), fun j x hx => ((Stp.alloc [] w1 (.cells #[.int .i64 0, .int .u32 0, .int .u8 0, .int .u8 0, .slice none 0 0, .int .i64 0, .bool false] 43)).cell (a := ⟨gp, j, none⟩) H1.out.2.2.2.2 (by simp)).trans (H1.out.2.2.1 j x hx), H1.out.2.2.2.1, H1.out.2.2.2.2, by simp⟩
  generalize w1.alloc (.cells #[.int .i64 0, .int .u32 0, .int .u8 0, .int .u8 0, .slice none 0 0, .int .i64 0, .bool false] 43) = w2 at *
  generalize w1.heap.size = g1 at *
  have c0 := H2.out.2.1.c0
  have c1 := H2.out.2.1.c1
  have c2 := H2.out.2.1.c2
  have c3 := H2.out.2.1.c3
  have c4 := H2.out.2.1.c4
  have c5 := H2.out.2.1.c5
  have c6 := H2.out.2.1.c6
  clear H1
  go_upto_region 4 with fail
  have H3 : Aside (T3 w (w2.alloc (.cells #[.int .i64 0, .int .u32 0, .int .u8 0, .int .u8 0, .slice none 0 0, .int .i64 0, .bool false] 43)) g0 g1 w2.heap.size gp L 0 0 0 0 (.slice none 0 0) 0 false) :=
    ⟨H2.out.1.other (Stp.alloc [] _ _) (by simp), H2.out.2.1.other (Stp.alloc [] _ _) (by simp), heap_alloc_new w2 _, H2.out.2.2.1.trans (Stp.alloc [] _ _), fun j x hx => ((Stp.alloc [] w2 (.cells #[.int .i64 0, .int .u32 0, .int .u8 0, .int .u8 0, .slice none 0 0, .int .i64 0, .bool false] 43)).cell (a := ⟨gp, j, none⟩) (Nat.lt_trans H2.out.2.2.2.2.2.1 H2.out.2.2.2.2.2.2) (by simp)).trans (H2.out.2.2.2.1 j x hx), by rw [HG.out]; exact Nat.le_refl _, H2.out.2.2.2.2.1, H2.out.2.2.2.2.2.1, H2.out.2.2.2.2.2.2, by have := H2.out.2.2.2.2; simp; omega⟩
  generalize w2.alloc (.cells #[.int .i64 0, .int .u32 0, .int .u8 0, .int .u8 0, .slice none 0 0, .int .i64 0, .bool false] 43) = w3 at *
  generalize w2.heap.size = g2 at *
  clear H2 c0 c1 c2 c3 c4 c5 c6
  have hLL : L = a :: b :: R := HL.out.1.trans HLL.out
  have d0 : w3.cell? ⟨gp, 0, none⟩ = some (.string (st a)) := H3.out.p 0 a (by rw [hLL]; rfl)
  have d1 : w3.cell? ⟨gp, 1, none⟩ = some (.string (st b)) := H3.out.p 1 b (by rw [hLL]; rfl)
  have hpR : p = R.length + 2 := by rw [HL.out.2, hLL]; rfl
  have hp2 : ¬ (p : Int) < 2 := by omega
  have hp0 : (0 : Int) < (p : Int) := by omega
  have hp1 : (1 : Int) < (p : Int) := by omega
  have HR := Lib.hid (And.intro hLL hpR)
  clear hLL hpR
  obtain ⟨q, hq⟩ : ∃ q, p = q + 1 := ⟨p - 1, by have := HR.out.2; omega⟩
  obtain ⟨z, hz⟩ : ∃ z, L[q]? = some z := ⟨L[q]'(by have := HL.out.2; omega), List.getElem?_eq_getElem _⟩
  have hzl : z.length ≤ 2000 := by have h1 := spl_mem_len 32 s z (by rw [← HL.out.1]; exact List.mem_of_getElem? hz); omega
  have KN := Lib.hid (fun W => rnum18_run z (by omega) W)
  obtain ⟨nz, hnz⟩ : ∃ nz, nz = rz (rnum 10 18 z) := ⟨_, rfl⟩
  rw [← hnz] at KN
  have HN := Lib.hid (And.intro hz (And.intro hnz hq))
  have hsub : IntKind.i64.wrap ((p : Int) - 1) = (q : Int) := by rw [IntKind.wrap_i64]; have := hcm; simp [maxLen] at this; omega
  have hq0 : (0 : Int) ≤ (q : Int) := by omega
  have hqp : (q : Int) < (p : Int) := by omega
  clear hz hnz hq hzl
  have k0 := H3.out.e.c6
  have k1 := H3.out.e.fz 6
  go_upto_region 13 with fail
  have H4 : Aside (T3 w (w3.setCell ⟨g1, 6, none⟩ (.bool false)) g0 g1 g2 gp L 0 0 0 0 (.slice none 0 0) 0 false) := H3.out.act (stp_one _ _ _ _) (H3.out.e.setO false)
  generalize w3.setCell ⟨g1, 6, none⟩ (.bool false) = w4 at *
  clear H3 k0 k1 d0 d1
  have d2 : w4.cell? ⟨gp, q, none⟩ = some (.string (st z)) := H4.out.p q z HN.out.1
  have d0 : w4.cell? ⟨gp, 0, none⟩ = some (.string (st a)) := H4.out.p 0 a (by rw [HR.out.1]; rfl)
  go_wp2_with fail
  refine (KN.out _).mono ?_
  rintro _ w4 ⟨rfl, rfl⟩
  clear KN d2
  have h5 : p = 5 := by have h1 := HR.out.2; rw [HXhR.out] at h1; exact h1
  have hpe : ((p : Int) != 5) = false := by rw [h5]; rfl
  have hp2' : (2 : Int) < (p : Int) := by omega
  have hp3' : (3 : Int) < (p : Int) := by omega
  have hp4' : (4 : Int) < (p : Int) := by omega
  have hlen : c.length ≤ 2000 ∧ d.length ≤ 2000 ∧ e.length ≤ 2000 := by
    refine ⟨?_, ?_, ?_⟩
    · have h1 := spl_mem_len 32 s c (by rw [← HL.out.1, HR.out.1, HXhR.out]; simp); omega
    · have h1 := spl_mem_len 32 s d (by rw [← HL.out.1, HR.out.1, HXhR.out]; simp); omega
    · have h1 := spl_mem_len 32 s e (by rw [← HL.out.1, HR.out.1, HXhR.out]; simp); omega
  clear h5
  have hTl : T.length ≤ 3000 := by
    have h1 := spl_glue 32 s
    rw [← HL.out.1, HR.out.1, HXhR.out] at h1
    have h2 := congrArg List.length h1
    rw [HXhT.out]
    simp [Lib.join] at h2 ⊢
    omega
  go_upto_region 21 with fail
  obtain ⟨S0, hS0⟩ : ∃ S, S = st c := ⟨_, rfl⟩
  obtain ⟨Sd, hSd⟩ : ∃ S, S = st d := ⟨_, rfl⟩
  obtain ⟨Se, hSe⟩ : ∃ S, S = st e := ⟨_, rfl⟩
  obtain ⟨S1, e1⟩ : ∃ S, S0 ++ (⟨#[32]⟩ : ByteArray) = S := ⟨_, rfl⟩
  obtain ⟨S2, e2⟩ : ∃ S, S1 ++ Sd = S := ⟨_, rfl⟩
  obtain ⟨S3, e3⟩ : ∃ S, S2 ++ (⟨#[32]⟩ : ByteArray) = S := ⟨_, rfl⟩
  obtain ⟨S4, e4⟩ : ∃ S, S3 ++ Se = S := ⟨_, rfl⟩
  have hs32 : (⟨#[32]⟩ : ByteArray) = st [32] := rfl
  have g1' : S1 = st (c ++ [32]) := by rw [← e1, hS0, hs32, st_append]
  have g2' : S2 = st (c ++ [32] ++ d) := by rw [← e2, g1', hSd, st_append]
  have g3' : S3 = st (c ++ [32] ++ d ++ [32]) := by rw [← e3, g2', hs32, st_append]
  have g4' : S4 = st T := by rw [← e4, g3', hSe, st_append, HXhT.out]; simp
  have n0 : S0.size = c.length := by rw [hS0, st_size]
  have nd : Sd.size = d.length := by rw [hSd, st_size]
  have ne : Se.size = e.length := by rw [hSe, st_size]
  have n1 : S1.size = c.length + 1 := by rw [g1', st_size]; simp
  have n2 : S2.size = c.length + 1 + d.length := by rw [g2', st_size]; simp; omega
  have n3 : S3.size = c.length + 1 + d.length + 1 := by rw [g3', st_size]; simp; omega
  have hr1 : ¬ 9223372036854775807 < S0.size + 1 := by omega
  have hr1b : ¬ 9223372036854775807 < S0.size + (⟨#[32]⟩ : ByteArray).size := hr1
  have hr2 : ¬ 9223372036854775807 < S1.size + Sd.size := by omega
  have hr3 : ¬ 9223372036854775807 < S2.size + 1 := by omega
  have hr3b : ¬ 9223372036854775807 < S2.size + (⟨#[32]⟩ : ByteArray).size := hr3
  have hr4 : ¬ 9223372036854775807 < S3.size + Se.size := by omega
  have KR : ∀ W', Stp [] w4 [] W' → Calls Tryz.prog 39 #[.string S4] W' fun en w' => en = .returned (.tuple #[.agg #[.int .u32 (0 : Int), .int .u8 (0 : Int), .int .u8 (0 : Int)], .int .i64 8]) ∧ Stp [] w4 [] w' := fun W' hs => by
    have h := rread_run T hTl W'
    rw [HXhrv.out, ← g4'] at h
    exact h.mono fun _ _ ⟨h1, h2⟩ => ⟨h1, hs.trans h2⟩
  have KR := Lib.hid KR
  have HC : Aside (∀ W', Stp [] w4 [] W' → W'.cell? ⟨gp, 2, none⟩ = some (.string S0) ∧ W'.cell? ⟨gp, 3, none⟩ = some (.string Sd) ∧ W'.cell? ⟨gp, 4, none⟩ = some (.string Se)) := fun W' hs => by
    have q := (H4.out.stays hs).p
    exact ⟨by rw [hS0]; exact q 2 c (by rw [HR.out.1, HXhR.out]; rfl), by rw [hSd]; exact q 3 d (by rw [HR.out.1, HXhR.out]; rfl), by rw [hSe]; exact q 4 e (by rw [HR.out.1, HXhR.out]; rfl)⟩
  have HC2 : Aside (∀ W', Stp [] w4 [] W' → T3 w (((W'.setCell ⟨g1, 1, none⟩ (.int .u32 (0 : Int))).setCell ⟨g1, 2, none⟩ (.int .u8 (0 : Int))).setCell ⟨g1, 3, none⟩ (.int .u8 (0 : Int))) g0 g1 g2 gp L 0 0 0 0 (.slice none 0 0) 0 false) := fun W' hs =>
    (H4.out.stays hs).act (((stp_one _ _ _ _).trans (stp_one _ _ _ _)).trans (stp_one _ _ _ _)) ((H4.out.stays hs).e.setA 0 0 0)
  have HC3 : Aside (∀ W', Stp [] w4 [] W' → (((W'.setCell ⟨g1, 1, none⟩ (.int .u32 (0 : Int))).setCell ⟨g1, 2, none⟩ (.int .u8 (0 : Int))).setCell ⟨g1, 3, none⟩ (.int .u8 (0 : Int))).cell? ⟨gp, 2, none⟩ = some (.string S0) ∧ (((W'.setCell ⟨g1, 1, none⟩ (.int .u32 (0 : Int))).setCell ⟨g1, 2, none⟩ (.int .u8 (0 : Int))).setCell ⟨g1, 3, none⟩ (.int .u8 (0 : Int))).cell? ⟨gp, 3, none⟩ = some (.string Sd) ∧ (((W'.setCell ⟨g1, 1, none⟩ (.int .u32 (0 : Int))).setCell ⟨g1, 2, none⟩ (.int .u8 (0 : Int))).setCell ⟨g1, 3, none⟩ (.int .u8 (0 : Int))).cell? ⟨gp, 4, none⟩ = some (.string Se)) := fun W' hs => by
    have q := (HC2.out W' hs).p
    exact ⟨by rw [hS0]; exact q 2 c (by rw [HR.out.1, HXhR.out]; rfl), by rw [hSd]; exact q 3 d (by rw [HR.out.1, HXhR.out]; rfl), by rw [hSe]; exact q 4 e (by rw [HR.out.1, HXhR.out]; rfl)⟩
  have hcur : Stp [] w4 [] w4.drew := Stp.drew _ _
  clear hS0 hSd hSe hs32 g1' g2' g3' g4' n0 nd ne n1 n2 n3 hlen hTl d0
  go_region_held3 (fun W' => W'.cell? ⟨gp, 2, none⟩ = some (.string S0) ∧ W'.cell? ⟨gp, 3, none⟩ = some (.string Sd) ∧ W'.cell? ⟨gp, 4, none⟩ = some (.string Se))
    (first | exact HC.out _ hcur | exact HC3.out _ hcur | assumption)
    (first
      | (go_at_call 39
         refine (KR.out _ hcur).mono ?_
         rintro _ w5 ⟨rfl, s5⟩
         replace hcur := s5
         have b1 := (H4.out.stays s5).e.c1
         have b2 := (H4.out.stays s5).e.c2
         have b3 := (H4.out.stays s5).e.c3
         have y1 := (H4.out.stays s5).e.fz 1
         have y2 := (H4.out.stays s5).e.fz 2
         have y3 := (H4.out.stays s5).e.fz 3))
  have H5 := HC2.out _ hcur
  have H5 : Aside (T3 w (((w5.setCell ⟨g1, 1, none⟩ (.int .u32 (0 : Int))).setCell ⟨g1, 2, none⟩ (.int .u8 (0 : Int))).setCell ⟨g1, 3, none⟩ (.int .u8 (0 : Int))) g0 g1 g2 gp L 0 0 0 0 (.slice none 0 0) 0 false) := H5
  generalize ((w5.setCell ⟨g1, 1, none⟩ (.int .u32 (0 : Int))).setCell ⟨g1, 2, none⟩ (.int .u8 (0 : Int))).setCell ⟨g1, 3, none⟩ (.int .u8 (0 : Int)) = w6 at *
  clear b1 b2 b3 y1 y2 y3 HC HC2 HC3 KR H4 hcur e1 e2 e3 e4 hr1 hr1b hr2 hr3 hr3b hr4
  have d0 : w6.cell? ⟨gp, 0, none⟩ = some (.string (st a)) := H5.out.p 0 a (by rw [HR.out.1]; rfl)
  go_upto_region 39 with fail
  clear d0
  have c0 := H5.out.r.c0
  have c1 := H5.out.r.c1
  have c2 := H5.out.r.c2
  have c3 := H5.out.r.c3
  have c4 := H5.out.r.c4
  have c5 := H5.out.r.c5
  have c6 := H5.out.r.c6
  have e0 := H5.out.z.c0
  have e1 := H5.out.z.c1
  have e2 := H5.out.z.c2
  have e3 := H5.out.z.c3
  have e4 := H5.out.z.c4
  have e5 := H5.out.z.c5
  have e6 := H5.out.z.c6
  have z0 := H5.out.r.fz 0
  have z1 := H5.out.r.fz 1
  have z2 := H5.out.r.fz 2
  have z3 := H5.out.r.fz 3
  have z4 := H5.out.r.fz 4
  have z5 := H5.out.r.fz 5
  have z6 := H5.out.r.fz 6
  go_wp2
  refine bodyPost_ret (res_eff2 rfl _ rfl (H5.out.r.set7 0 0 0 0 (.slice none 0 0) 0 false)) rfl ?_
  refine ⟨(H5.out.stp.fresh (stp7 _ _ _ _ _ _ _ _ _) (by have := H5.out.lo; simp; omega)).none, ?_⟩
  rw [HRF.out]
  rfl

set_option maxHeartbeats 2000000 in
set_option maxRecDepth 100000 in
theorem rd_atwasyf (s : List UInt8) (hs : s.length ≤ 2000) (w : World) (h1 : s ≠ [101, 110, 100]) (h2 : s ≠ [104, 105, 115, 116, 111, 114, 121]) (a b : List UInt8) (R : List (List UInt8)) (hL : spl 32 s = a :: b :: R) (ha : a = [119, 97, 115]) (hb : b = [102, 97, 105, 108]) (c d e : List UInt8) (hR : R = [c, d, e]) (T : List UInt8) (hT : T = c ++ 32 :: (d ++ 32 :: e)) (hu : text (rdf T) (rdm T) (rdt T) = T) (f m t : Nat) (hf : rdf T = f) (hm : rdm T = m) (ht : rdt T = t) : Calls Tryz.prog 24 #[.string (st s)] w (EffTo (rf s) w) := by
  have HRF : Hid (rf s = some (1, { E0 with f := f, m := m, t := t, ok := false })) := Lib.hid (by
    unfold rf
    rw [if_neg h1, if_neg h2, hL]
    subst hR
    have hu2 := hu
    rw [hf, hm, ht] at hu2
    subst hT
    simp [rfL, ha, hb, tks, tk, hu, hf, hm, ht, hu2])
  have q1 : ((st s).toList == [101, 110, 100]) = false := by rw [st_toList]; exact beq_eq_false_iff_ne.2 h1
  have q2 : ((st s).toList == [104, 105, 115, 116, 111, 114, 121]) = false := by rw [st_toList]; exact beq_eq_false_iff_ne.2 h2
  have qagot : ((st a).toList == [103, 111, 116]) = false := by rw [st_toList, ha]; rfl
  have qawas : ((st a).toList == [119, 97, 115]) = true := by rw [st_toList, ha]; rfl
  have qawrote : ((st a).toList == [119, 114, 111, 116, 101]) = false := by rw [st_toList, ha]; rfl
  have qaread : ((st a).toList == [114, 101, 97, 100]) = false := by rw [st_toList, ha]; rfl
  have qasignal : ((st a).toList == [115, 105, 103, 110, 97, 108]) = false := by rw [st_toList, ha]; rfl
  have qb1 : ((st b).toList == [111, 107]) = false := by rw [st_toList, hb]; rfl
  have qb2 : ((st b).toList == [102, 97, 105, 108]) = true := by rw [st_toList, hb]; rfl
  have hrv : rv T = .tuple #[.agg #[.int .u32 (f : Int), .int .u8 (m : Int), .int .u8 (t : Int)], .int .i64 0] := by
    unfold rv
    rw [if_pos hu, hf, hm, ht]
    rfl
  clear hu hf hm ht
  have HXhR := Lib.hid hR
  have HXhT := Lib.hid hT
  have HXhrv := Lib.hid hrv
  clear hR hT hrv
  have HLL := Lib.hid hL
  clear hL h1 h2 ha hb
  have KC := Lib.hid (fun W => rcut_run s 32 (by omega) W)
  have cv : ((32 : UInt8).toNat : Int) = 32 := rfl
  rw [cv] at KC
  clear cv
  go_enter Tryz.func24, Tryz.ntmps24
  have H0 : Aside (EAt (w.alloc (.cells #[.int .i64 0, .int .u32 0, .int .u8 0, .int .u8 0, .slice none 0 0, .int .i64 0, .bool false] 43)) w.heap.size 0 0 0 0 (.slice none 0 0) 0 false ∧ Stp [] w [] (w.alloc (.cells #[.int .i64 0, .int .u32 0, .int .u8 0, .int .u8 0, .slice none 0 0, .int .i64 0, .bool false] 43)) ∧ (w.alloc (.cells #[.int .i64 0, .int .u32 0, .int .u8 0, .int .u8 0, .slice none 0 0, .int .i64 0, .bool false] 43)).heap.size = w.heap.size + 1) := ⟨heap_alloc_new w _, Stp.alloc [] w _, by simp⟩
  obtain ⟨g0, hg0⟩ : ∃ g0, g0 = w.heap.size := ⟨_, rfl⟩
  rw [← hg0] at H0
  go_upto_region 1 with fail
  rw [← hg0]
  have HG := Lib.hid hg0
  generalize w.alloc (.cells #[.int .i64 0, .int .u32 0, .int .u8 0, .int .u8 0, .slice none 0 0, .int .i64 0, .bool false] 43) = w0 at *
  clear hg0
  go_wp2_with fail
  refine (KC.out _).mono ?_
  rintro _ w1 ⟨v, rfl, ho, s1⟩
  obtain ⟨a, cap, rfl, hno, hpc, hcm, hcell⟩ := ho.form
  rcases a with _ | ad
  · exact absurd (hno rfl).2 (spl_ne 32 s)
  obtain ⟨gp, rfl, hb1, hb2, hpcs⟩ := hcell ad rfl
  obtain ⟨L, hL⟩ : ∃ L, L = spl 32 s := ⟨_, rfl⟩
  obtain ⟨p, hp⟩ : ∃ p, p = L.length := ⟨_, rfl⟩
  rw [← hL] at hpc hpcs ⊢
  rw [← hp] at hpc ⊢
  have HL := Lib.hid (And.intro hL hp)
  have H1 : Aside (EAt w1 g0 0 0 0 0 (.slice none 0 0) 0 false ∧ Stp [] w [] w1 ∧ (∀ j x, L[j]? = some x → w1.cell? ⟨gp, j, none⟩ = some (.string (st x))) ∧ g0 < gp ∧ gp < w1.heap.size) := ⟨H0.out.1.other s1 (by simp), H0.out.2.1.trans s1, hpcs, by have := H0.out.2.2; omega, hb2⟩
  clear H0 s1 ho hno hpcs hcell hb1 hb2 hL hp KC
  go_upto_region 3 with fail
  have H2 : Aside (EAt (w1.alloc (.cells #[.int .i64 0, .int .u32 0, .int .u8 0, .int .u8 0, .slice none 0 0, .int .i64 0, .bool false] 43)) g0 0 0 0 0 (.slice none 0 0) 0 false ∧ EAt (w1.alloc (.cells #[.int .i64 0, .int .u32 0, .int .u8 0, .int .u8 0, .slice none 0 0, .int .i64 0, .bool false] 43)) w1.heap.size 0 0 0 0 (.slice none 0 0) 0 false ∧ Stp [] w [] (w1.alloc (.cells #[.int .i64 0, .int .u32 0, .int .u8 0, .int .u8 0, .slice none 0 0, .int .i64 0, .bool false] 43)) ∧ (∀ j x, L[j]? = some x → (w1.alloc (.cells #[.int .i64 0, .int .u32 0, .int .u8 0, .int .u8 0, .slice none 0 0, .int .i64 0, .bool false] 43)).cell? ⟨gp, j, none⟩ = some (.string (st x))) ∧ (g0 < gp ∧ gp < w1.heap.size ∧ w1.heap.size < (w1.alloc (.cells #[.int .i64 0, .int .u32 0, .int .u8 0, .int .u8 0, .slice none 0 0, .int .i64 0, .bool false] 43)).heap.size)) :=
    ⟨H1.out.1.other (Stp.alloc [] _ _) (by simp), heap_alloc_new w1 _, H1.out.2.1.trans (Stp.alloc [] _ _), fun j x hx => ((Stp.alloc [] w1 (.cells #[.int .i64 0, .int .u32 0, .int .u8 0, .int .u8 0, .slice none 0 0, .int .i64 0, .bool false] 43)).cell (a := ⟨gp, j, none⟩) H1.out.2.2.2.2 (by simp)).trans (H1.out.2.2.1 j x hx), H1.out.2.2.2.1, H1.out.2.2.2.2, by simp⟩
  generalize w1.alloc (.cells #[.int .i64 0, .int .u32 0, .int .u8 0, .int .u8 0, .slice none 0 0, .int .i64 0, .bool false] 43) = w2 at *
  generalize w1.heap.size = g1 at *
  have c0 := H2.out.2.1.c0
  have c1 := H2.out.2.1.c1
  have c2 := H2.out.2.1.c2
  have c3 := H2.out.2.1.c3
  have c4 := H2.out.2.1.c4
  have c5 := H2.out.2.1.c5
  have c6 := H2.out.2.1.c6
  clear H1
  go_upto_region 4 with fail
  have H3 : Aside (T3 w (w2.alloc (.cells #[.int .i64 0, .int .u32 0, .int .u8 0, .int .u8 0, .slice none 0 0, .int .i64 0, .bool false] 43)) g0 g1 w2.heap.size gp L 0 0 0 0 (.slice none 0 0) 0 false) :=
    ⟨H2.out.1.other (Stp.alloc [] _ _) (by simp), H2.out.2.1.other (Stp.alloc [] _ _) (by simp), heap_alloc_new w2 _, H2.out.2.2.1.trans (Stp.alloc [] _ _), fun j x hx => ((Stp.alloc [] w2 (.cells #[.int .i64 0, .int .u32 0, .int .u8 0, .int .u8 0, .slice none 0 0, .int .i64 0, .bool false] 43)).cell (a := ⟨gp, j, none⟩) (Nat.lt_trans H2.out.2.2.2.2.2.1 H2.out.2.2.2.2.2.2) (by simp)).trans (H2.out.2.2.2.1 j x hx), by rw [HG.out]; exact Nat.le_refl _, H2.out.2.2.2.2.1, H2.out.2.2.2.2.2.1, H2.out.2.2.2.2.2.2, by have := H2.out.2.2.2.2; simp; omega⟩
  generalize w2.alloc (.cells #[.int .i64 0, .int .u32 0, .int .u8 0, .int .u8 0, .slice none 0 0, .int .i64 0, .bool false] 43) = w3 at *
  generalize w2.heap.size = g2 at *
  clear H2 c0 c1 c2 c3 c4 c5 c6
  have hLL : L = a :: b :: R := HL.out.1.trans HLL.out
  have d0 : w3.cell? ⟨gp, 0, none⟩ = some (.string (st a)) := H3.out.p 0 a (by rw [hLL]; rfl)
  have d1 : w3.cell? ⟨gp, 1, none⟩ = some (.string (st b)) := H3.out.p 1 b (by rw [hLL]; rfl)
  have hpR : p = R.length + 2 := by rw [HL.out.2, hLL]; rfl
  have hp2 : ¬ (p : Int) < 2 := by omega
  have hp0 : (0 : Int) < (p : Int) := by omega
  have hp1 : (1 : Int) < (p : Int) := by omega
  have HR := Lib.hid (And.intro hLL hpR)
  clear hLL hpR
  obtain ⟨q, hq⟩ : ∃ q, p = q + 1 := ⟨p - 1, by have := HR.out.2; omega⟩
  obtain ⟨z, hz⟩ : ∃ z, L[q]? = some z := ⟨L[q]'(by have := HL.out.2; omega), List.getElem?_eq_getElem _⟩
  have hzl : z.length ≤ 2000 := by have h1 := spl_mem_len 32 s z (by rw [← HL.out.1]; exact List.mem_of_getElem? hz); omega
  have KN := Lib.hid (fun W => rnum18_run z (by omega) W)
  obtain ⟨nz, hnz⟩ : ∃ nz, nz = rz (rnum 10 18 z) := ⟨_, rfl⟩
  rw [← hnz] at KN
  have HN := Lib.hid (And.intro hz (And.intro hnz hq))
  have hsub : IntKind.i64.wrap ((p : Int) - 1) = (q : Int) := by rw [IntKind.wrap_i64]; have := hcm; simp [maxLen] at this; omega
  have hq0 : (0 : Int) ≤ (q : Int) := by omega
  have hqp : (q : Int) < (p : Int) := by omega
  clear hz hnz hq hzl
  have k0 := H3.out.e.c6
  have k1 := H3.out.e.fz 6
  go_upto_region 13 with fail
  have H4 : Aside (T3 w (w3.setCell ⟨g1, 6, none⟩ (.bool false)) g0 g1 g2 gp L 0 0 0 0 (.slice none 0 0) 0 false) := H3.out.act (stp_one _ _ _ _) (H3.out.e.setO false)
  generalize w3.setCell ⟨g1, 6, none⟩ (.bool false) = w4 at *
  clear H3 k0 k1 d0 d1
  have d2 : w4.cell? ⟨gp, q, none⟩ = some (.string (st z)) := H4.out.p q z HN.out.1
  have d0 : w4.cell? ⟨gp, 0, none⟩ = some (.string (st a)) := H4.out.p 0 a (by rw [HR.out.1]; rfl)
  go_wp2_with fail
  refine (KN.out _).mono ?_
  rintro _ w4 ⟨rfl, rfl⟩
  clear KN d2
  have h5 : p = 5 := by have h1 := HR.out.2; rw [HXhR.out] at h1; exact h1
  have hpe : ((p : Int) != 5) = false := by rw [h5]; rfl
  have hp2' : (2 : Int) < (p : Int) := by omega
  have hp3' : (3 : Int) < (p : Int) := by omega
  have hp4' : (4 : Int) < (p : Int) := by omega
  have hlen : c.length ≤ 2000 ∧ d.length ≤ 2000 ∧ e.length ≤ 2000 := by
    refine ⟨?_, ?_, ?_⟩
    · have h1 := spl_mem_len 32 s c (by rw [← HL.out.1, HR.out.1, HXhR.out]; simp); omega
    · have h1 := spl_mem_len 32 s d (by rw [← HL.out.1, HR.out.1, HXhR.out]; simp); omega
    · have h1 := spl_mem_len 32 s e (by rw [← HL.out.1, HR.out.1, HXhR.out]; simp); omega
  clear h5
  have hTl : T.length ≤ 3000 := by
    have h1 := spl_glue 32 s
    rw [← HL.out.1, HR.out.1, HXhR.out] at h1
    have h2 := congrArg List.length h1
    rw [HXhT.out]
    simp [Lib.join] at h2 ⊢
    omega
  go_upto_region 21 with fail
  obtain ⟨S0, hS0⟩ : ∃ S, S = st c := ⟨_, rfl⟩
  obtain ⟨Sd, hSd⟩ : ∃ S, S = st d := ⟨_, rfl⟩
  obtain ⟨Se, hSe⟩ : ∃ S, S = st e := ⟨_, rfl⟩
  obtain ⟨S1, e1⟩ : ∃ S, S0 ++ (⟨#[32]⟩ : ByteArray) = S := ⟨_, rfl⟩
  obtain ⟨S2, e2⟩ : ∃ S, S1 ++ Sd = S := ⟨_, rfl⟩
  obtain ⟨S3, e3⟩ : ∃ S, S2 ++ (⟨#[32]⟩ : ByteArray) = S := ⟨_, rfl⟩
  obtain ⟨S4, e4⟩ : ∃ S, S3 ++ Se = S := ⟨_, rfl⟩
  have hs32 : (⟨#[32]⟩ : ByteArray) = st [32] := rfl
  have g1' : S1 = st (c ++ [32]) := by rw [← e1, hS0, hs32, st_append]
  have g2' : S2 = st (c ++ [32] ++ d) := by rw [← e2, g1', hSd, st_append]
  have g3' : S3 = st (c ++ [32] ++ d ++ [32]) := by rw [← e3, g2', hs32, st_append]
  have g4' : S4 = st T := by rw [← e4, g3', hSe, st_append, HXhT.out]; simp
  have n0 : S0.size = c.length := by rw [hS0, st_size]
  have nd : Sd.size = d.length := by rw [hSd, st_size]
  have ne : Se.size = e.length := by rw [hSe, st_size]
  have n1 : S1.size = c.length + 1 := by rw [g1', st_size]; simp
  have n2 : S2.size = c.length + 1 + d.length := by rw [g2', st_size]; simp; omega
  have n3 : S3.size = c.length + 1 + d.length + 1 := by rw [g3', st_size]; simp; omega
  have hr1 : ¬ 9223372036854775807 < S0.size + 1 := by omega
  have hr1b : ¬ 9223372036854775807 < S0.size + (⟨#[32]⟩ : ByteArray).size := hr1
  have hr2 : ¬ 9223372036854775807 < S1.size + Sd.size := by omega
  have hr3 : ¬ 9223372036854775807 < S2.size + 1 := by omega
  have hr3b : ¬ 9223372036854775807 < S2.size + (⟨#[32]⟩ : ByteArray).size := hr3
  have hr4 : ¬ 9223372036854775807 < S3.size + Se.size := by omega
  have KR : ∀ W', Stp [] w4 [] W' → Calls Tryz.prog 39 #[.string S4] W' fun en w' => en = .returned (.tuple #[.agg #[.int .u32 (f : Int), .int .u8 (m : Int), .int .u8 (t : Int)], .int .i64 0]) ∧ Stp [] w4 [] w' := fun W' hs => by
    have h := rread_run T hTl W'
    rw [HXhrv.out, ← g4'] at h
    exact h.mono fun _ _ ⟨h1, h2⟩ => ⟨h1, hs.trans h2⟩
  have KR := Lib.hid KR
  have HC : Aside (∀ W', Stp [] w4 [] W' → W'.cell? ⟨gp, 2, none⟩ = some (.string S0) ∧ W'.cell? ⟨gp, 3, none⟩ = some (.string Sd) ∧ W'.cell? ⟨gp, 4, none⟩ = some (.string Se)) := fun W' hs => by
    have q := (H4.out.stays hs).p
    exact ⟨by rw [hS0]; exact q 2 c (by rw [HR.out.1, HXhR.out]; rfl), by rw [hSd]; exact q 3 d (by rw [HR.out.1, HXhR.out]; rfl), by rw [hSe]; exact q 4 e (by rw [HR.out.1, HXhR.out]; rfl)⟩
  have HC2 : Aside (∀ W', Stp [] w4 [] W' → T3 w (((W'.setCell ⟨g1, 1, none⟩ (.int .u32 (f : Int))).setCell ⟨g1, 2, none⟩ (.int .u8 (m : Int))).setCell ⟨g1, 3, none⟩ (.int .u8 (t : Int))) g0 g1 g2 gp L 0 f m t (.slice none 0 0) 0 false) := fun W' hs =>
    (H4.out.stays hs).act (((stp_one _ _ _ _).trans (stp_one _ _ _ _)).trans (stp_one _ _ _ _)) ((H4.out.stays hs).e.setA f m t)
  have HC3 : Aside (∀ W', Stp [] w4 [] W' → (((W'.setCell ⟨g1, 1, none⟩ (.int .u32 (f : Int))).setCell ⟨g1, 2, none⟩ (.int .u8 (m : Int))).setCell ⟨g1, 3, none⟩ (.int .u8 (t : Int))).cell? ⟨gp, 2, none⟩ = some (.string S0) ∧ (((W'.setCell ⟨g1, 1, none⟩ (.int .u32 (f : Int))).setCell ⟨g1, 2, none⟩ (.int .u8 (m : Int))).setCell ⟨g1, 3, none⟩ (.int .u8 (t : Int))).cell? ⟨gp, 3, none⟩ = some (.string Sd) ∧ (((W'.setCell ⟨g1, 1, none⟩ (.int .u32 (f : Int))).setCell ⟨g1, 2, none⟩ (.int .u8 (m : Int))).setCell ⟨g1, 3, none⟩ (.int .u8 (t : Int))).cell? ⟨gp, 4, none⟩ = some (.string Se)) := fun W' hs => by
    have q := (HC2.out W' hs).p
    exact ⟨by rw [hS0]; exact q 2 c (by rw [HR.out.1, HXhR.out]; rfl), by rw [hSd]; exact q 3 d (by rw [HR.out.1, HXhR.out]; rfl), by rw [hSe]; exact q 4 e (by rw [HR.out.1, HXhR.out]; rfl)⟩
  have hcur : Stp [] w4 [] w4.drew := Stp.drew _ _
  clear hS0 hSd hSe hs32 g1' g2' g3' g4' n0 nd ne n1 n2 n3 hlen hTl d0
  go_region_held3 (fun W' => W'.cell? ⟨gp, 2, none⟩ = some (.string S0) ∧ W'.cell? ⟨gp, 3, none⟩ = some (.string Sd) ∧ W'.cell? ⟨gp, 4, none⟩ = some (.string Se))
    (first | exact HC.out _ hcur | exact HC3.out _ hcur | assumption)
    (first
      | (go_at_call 39
         refine (KR.out _ hcur).mono ?_
         rintro _ w5 ⟨rfl, s5⟩
         replace hcur := s5
         have b1 := (H4.out.stays s5).e.c1
         have b2 := (H4.out.stays s5).e.c2
         have b3 := (H4.out.stays s5).e.c3
         have y1 := (H4.out.stays s5).e.fz 1
         have y2 := (H4.out.stays s5).e.fz 2
         have y3 := (H4.out.stays s5).e.fz 3))
  have H5 := HC2.out _ hcur
  have H5 : Aside (T3 w (((w5.setCell ⟨g1, 1, none⟩ (.int .u32 (f : Int))).setCell ⟨g1, 2, none⟩ (.int .u8 (m : Int))).setCell ⟨g1, 3, none⟩ (.int .u8 (t : Int))) g0 g1 g2 gp L 0 f m t (.slice none 0 0) 0 false) := H5
  generalize ((w5.setCell ⟨g1, 1, none⟩ (.int .u32 (f : Int))).setCell ⟨g1, 2, none⟩ (.int .u8 (m : Int))).setCell ⟨g1, 3, none⟩ (.int .u8 (t : Int)) = w6 at *
  clear b1 b2 b3 y1 y2 y3 HC HC2 HC3 KR H4 hcur e1 e2 e3 e4 hr1 hr1b hr2 hr3 hr3b hr4
  have d0 : w6.cell? ⟨gp, 0, none⟩ = some (.string (st a)) := H5.out.p 0 a (by rw [HR.out.1]; rfl)
  go_upto_region 24 with fail
  have k0 := H5.out.e.c0
  have k1 := H5.out.e.fz 0
  go_upto_region 25 with fail
  have H6 : Aside (T3 w (w6.setCell ⟨g1, 0, none⟩ (.int .i64 1)) g0 g1 g2 gp L 1 f m t (.slice none 0 0) 0 false) := H5.out.act (stp_one _ _ _ _) (H5.out.e.setK 1)
  generalize w6.setCell ⟨g1, 0, none⟩ (.int .i64 1) = w7 at *
  clear H5 k0 k1
  go_upto_region 40 with fail
  clear d0
  have k0 := H6.out.e.c5
  have k1 := H6.out.e.fz 5
  go_upto_region 41 with fail
  have H8 : Aside (T3 w (w7.setCell ⟨g1, 5, none⟩ (.int .i64 0)) g0 g1 g2 gp L 1 f m t (.slice none 0 0) 0 false) := H6.out.act (stp_one _ _ _ _) (H6.out.e.setN 0)
  generalize w7.setCell ⟨g1, 5, none⟩ (.int .i64 0) = w8 at *
  clear H6 k0 k1
  have c0 := H8.out.r.c0
  have c1 := H8.out.r.c1
  have c2 := H8.out.r.c2
  have c3 := H8.out.r.c3
  have c4 := H8.out.r.c4
  have c5 := H8.out.r.c5
  have c6 := H8.out.r.c6
  have e0 := H8.out.e.c0
  have e1 := H8.out.e.c1
  have e2 := H8.out.e.c2
  have e3 := H8.out.e.c3
  have e4 := H8.out.e.c4
  have e5 := H8.out.e.c5
  have e6 := H8.out.e.c6
  have z0 := H8.out.r.fz 0
  have z1 := H8.out.r.fz 1
  have z2 := H8.out.r.fz 2
  have z3 := H8.out.r.fz 3
  have z4 := H8.out.r.fz 4
  have z5 := H8.out.r.fz 5
  have z6 := H8.out.r.fz 6
  go_wp2
  refine bodyPost_ret (res_eff2 rfl _ rfl (H8.out.r.set7 1 f m t (.slice none 0 0) 0 false)) rfl ?_
  refine ⟨(H8.out.stp.fresh (stp7 _ _ _ _ _ _ _ _ _) (by have := H8.out.lo; simp; omega)).none, ?_⟩
  rw [HRF.out]
  exact ⟨_, rfl, none, 0, rfl, Bts.nil _ _, Nat.le_refl _, fun _ => rfl, fun ad h => by cases h⟩

set_option maxHeartbeats 2000000 in
set_option maxRecDepth 100000 in
theorem rd_atwasnf (s : List UInt8) (hs : s.length ≤ 2000) (w : World) (h1 : s ≠ [101, 110, 100]) (h2 : s ≠ [104, 105, 115, 116, 111, 114, 121]) (a b : List UInt8) (R : List (List UInt8)) (hL : spl 32 s = a :: b :: R) (ha : a = [119, 97, 115]) (hb : b = [102, 97, 105, 108]) (c d e : List UInt8) (hR : R = [c, d, e]) (T : List UInt8) (hT : T = c ++ 32 :: (d ++ 32 :: e)) (hu : text (rdf T) (rdm T) (rdt T) ≠ T) : Calls Tryz.prog 24 #[.string (st s)] w (EffTo (rf s) w) := by
  have HRF : Hid (rf s = none) := Lib.hid (by
    unfold rf
    rw [if_neg h1, if_neg h2, hL]
    subst hR
    subst hT
    simp [rfL, ha, hb, tks, tk, hu])
  have q1 : ((st s).toList == [101, 110, 100]) = false := by rw [st_toList]; exact beq_eq_false_iff_ne.2 h1
  have q2 : ((st s).toList == [104, 105, 115, 116, 111, 114, 121]) = false := by rw [st_toList]; exact beq_eq_false_iff_ne.2 h2
  have qagot : ((st a).toList == [103, 111, 116]) = false := by rw [st_toList, ha]; rfl
  have qawas : ((st a).toList == [119, 97, 115]) = true := by rw [st_toList, ha]; rfl
  have qawrote : ((st a).toList == [119, 114, 111, 116, 101]) = false := by rw [st_toList, ha]; rfl
  have qaread : ((st a).toList == [114, 101, 97, 100]) = false := by rw [st_toList, ha]; rfl
  have qasignal : ((st a).toList == [115, 105, 103, 110, 97, 108]) = false := by rw [st_toList, ha]; rfl
  have qb1 : ((st b).toList == [111, 107]) = false := by rw [st_toList, hb]; rfl
  have qb2 : ((st b).toList == [102, 97, 105, 108]) = true := by rw [st_toList, hb]; rfl
  have hrv : rv T = .tuple #[.agg #[.int .u32 (0 : Int), .int .u8 (0 : Int), .int .u8 (0 : Int)], .int .i64 8] := by
    unfold rv
    rw [if_neg hu]
    rfl
  clear hu
  have HXhR := Lib.hid hR
  have HXhT := Lib.hid hT
  have HXhrv := Lib.hid hrv
  clear hR hT hrv
  have HLL := Lib.hid hL
  clear hL h1 h2 ha hb
  have KC := Lib.hid (fun W => rcut_run s 32 (by omega) W)
  have cv : ((32 : UInt8).toNat : Int) = 32 := rfl
  rw [cv] at KC
  clear cv
  go_enter Tryz.func24, Tryz.ntmps24
  have H0 : Aside (EAt (w.alloc (.cells #[.int .i64 0, .int .u32 0, .int .u8 0, .int .u8 0, .slice none 0 0, .int .i64 0, .bool false] 43)) w.heap.size 0 0 0 0 (.slice none 0 0) 0 false ∧ Stp [] w [] (w.alloc (.cells #[.int .i64 0, .int .u32 0, .int .u8 0, .int .u8 0, .slice none 0 0, .int .i64 0, .bool false] 43)) ∧ (w.alloc (.cells #[.int .i64 0, .int .u32 0, .int .u8 0, .int .u8 0, .slice none 0 0, .int .i64 0, .bool false] 43)).heap.size = w.heap.size + 1) := ⟨heap_alloc_new w _, Stp.alloc [] w _, by simp⟩
  obtain ⟨g0, hg0⟩ : ∃ g0, g0 = w.heap.size := ⟨_, rfl⟩
  rw [← hg0] at H0
  go_upto_region 1 with fail
  rw [← hg0]
  have HG := Lib.hid hg0
  generalize w.alloc (.cells #[.int .i64 0, .int .u32 0, .int .u8 0, .int .u8 0, .slice none 0 0, .int .i64 0, .bool false] 43) = w0 at *
  clear hg0
  go_wp2_with fail
  refine (KC.out _).mono ?_
  rintro _ w1 ⟨v, rfl, ho, s1⟩
  obtain ⟨a, cap, rfl, hno, hpc, hcm, hcell⟩ := ho.form
  rcases a with _ | ad
  · exact absurd (hno rfl).2 (spl_ne 32 s)
  obtain ⟨gp, rfl, hb1, hb2, hpcs⟩ := hcell ad rfl
  obtain ⟨L, hL⟩ : ∃ L, L = spl 32 s := ⟨_, rfl⟩
  obtain ⟨p, hp⟩ : ∃ p, p = L.length := ⟨_, rfl⟩
  rw [← hL] at hpc hpcs ⊢
  rw [← hp] at hpc ⊢
  have HL := Lib.hid (And.intro hL hp)
  have H1 : Aside (EAt w1 g0 0 0 0 0 (.slice none 0 0) 0 false ∧ Stp [] w [] w1 ∧ (∀ j x, L[j]? = some x → w1.cell? ⟨gp, j, none⟩ = some (.string (st x))) ∧ g0 < gp ∧ gp < w1.heap.size) := ⟨H0.out.1.other s1 (by simp), H0.out.2.1.trans s1, hpcs, by have := H0.out.2.2; omega, hb2⟩
  clear H0 s1 ho hno hpcs hcell hb1 hb2 hL hp KC
  go_upto_region 3 with fail
  have H2 : Aside (EAt (w1.alloc (.cells #[.int .i64 0, .int .u32 0, .int .u8 0, .int .u8 0, .slice none 0 0, .int .i64 0, .bool false] 43)) g0 0 0 0 0 (.slice none 0 0) 0 false ∧ EAt (w1.alloc (.cells #[.int .i64 0, .int .u32 0, .int .u8 0, .int .u8 0, .slice none 0 0, .int .i64 0, .bool false] 43)) w1.heap.size 0 0 0 0 (.slice none 0 0) 0 false ∧ Stp [] w [] (w1.alloc (.cells #[.int .i64 0, .int .u32 0, .int .u8 0, .int .u8 0, .slice none 0 0, .int .i64 0, .bool false] 43)) ∧ (∀ j x, L[j]? = some x → (w1.alloc (.cells #[.int .i64 0, .int .u32 0, .int .u8 0, .int .u8 0, .slice none 0 0, .int .i64 0, .bool false] 43)).cell? ⟨gp, j, none⟩ = some (.string (st x))) ∧ (g0 < gp ∧ gp < w1.heap.size ∧ w1.heap.size < (w1.alloc (.cells #[.int .i64 0, .int .u32 0, .int .u8 0, .int .u8 0, .slice none 0 0, .int .i64 0, .bool false] 43)).heap.size)) :=
    ⟨H1.out.1.other (Stp.alloc [] _ _) (by simp), heap_alloc_new w1 _, H1.out.2.1.trans (Stp.alloc [] _ _), fun j x hx => ((Stp.alloc [] w1 (.cells #[.int .i64 0, .int .u32 0, .int .u8 0, .int .u8 0, .slice none 0 0, .int .i64 0, .bool false] 43)).cell (a := ⟨gp, j, none⟩) H1.out.2.2.2.2 (by simp)).trans (H1.out.2.2.1 j x hx), H1.out.2.2.2.1, H1.out.2.2.2.2, by simp⟩
  generalize w1.alloc (.cells #[.int .i64 0, .int .u32 0, .int .u8 0, .int .u8 0, .slice none 0 0, .int .i64 0, .bool false] 43) = w2 at *
  generalize w1.heap.size = g1 at *
  have c0 := H2.out.2.1.c0
  have c1 := H2.out.2.1.c1
  have c2 := H2.out.2.1.c2
  have c3 := H2.out.2.1.c3
  have c4 := H2.out.2.1.c4
  have c5 := H2.out.2.1.c5
  have c6 := H2.out.2.1.c6
  clear H1
  go_upto_region 4 with fail
  have H3 : Aside (T3 w (w2.alloc (.cells #[.int .i64 0, .int .u32 0, .int .u8 0, .int .u8 0, .slice none 0 0, .int .i64 0, .bool false] 43)) g0 g1 w2.heap.size gp L 0 0 0 0 (.slice none 0 0) 0 false) :=
    ⟨H2.out.1.other (Stp.alloc [] _ _) (by simp), H2.out.2.1.other (Stp.alloc [] _ _) (by simp), heap_alloc_new w2 _, H2.out.2.2.1.trans (Stp.alloc [] _ _), fun j x hx => ((Stp.alloc [] w2 (.cells #[.int .i64 0, .int .u32 0, .int .u8 0, .int .u8 0, .slice none 0 0, .int .i64 0, .bool false] 43)).cell (a := ⟨gp, j, none⟩) (Nat.lt_trans H2.out.2.2.2.2.2.1 H2.out.2.2.2.2.2.2) (by simp)).trans (H2.out.2.2.2.1 j x hx), by rw [HG.out]; exact Nat.le_refl _, H2.out.2.2.2.2.1, H2.out.2.2.2.2.2.1, H2.out.2.2.2.2.2.2, by have := H2.out.2.2.2.2; simp; omega⟩
  generalize w2.alloc (.cells #[.int .i64 0, .int .u32 0, .int .u8 0, .int .u8 0, .slice none 0 0, .int .i64 0, .bool false] 43) = w3 at *
  generalize w2.heap.size = g2 at *
  clear H2 c0 c1 c2 c3 c4 c5 c6
  have hLL : L = a :: b :: R := HL.out.1.trans HLL.out
  have d0 : w3.cell? ⟨gp, 0, none⟩ = some (.string (st a)) := H3.out.p 0 a (by rw [hLL]; rfl)
  have d1 : w3.cell? ⟨gp, 1, none⟩ = some (.string (st b)) := H3.out.p 1 b (by rw [hLL]; rfl)
  have hpR : p = R.length + 2 := by rw [HL.out.2, hLL]; rfl
  have hp2 : ¬ (p : Int) < 2 := by omega
  have hp0 : (0 : Int) < (p : Int) := by omega
  have hp1 : (1 : Int) < (p : Int) := by omega
  have HR := Lib.hid (And.intro hLL hpR)
  clear hLL hpR
  obtain ⟨q, hq⟩ : ∃ q, p = q + 1 := ⟨p - 1, by have := HR.out.2; omega⟩
  obtain ⟨z, hz⟩ : ∃ z, L[q]? = some z := ⟨L[q]'(by have := HL.out.2; omega), List.getElem?_eq_getElem _⟩
  have hzl : z.length ≤ 2000 := by have h1 := spl_mem_len 32 s z (by rw [← HL.out.1]; exact List.mem_of_getElem? hz); omega
  have KN := Lib.hid (fun W => rnum18_run z (by omega) W)
  obtain ⟨nz, hnz⟩ : ∃ nz, nz = rz (rnum 10 18 z) := ⟨_, rfl⟩
  rw [← hnz] at KN
  have HN := Lib.hid (And.intro hz (And.intro hnz hq))
  have hsub : IntKind.i64.wrap ((p : Int) - 1) = (q : Int) := by rw [IntKind.wrap_i64]; have := hcm; simp [maxLen] at this; omega
  have hq0 : (0 : Int) ≤ (q : Int) := by omega
  have hqp : (q : Int) < (p : Int) := by omega
  clear hz hnz hq hzl
  have k0 := H3.out.e.c6
  have k1 := H3.out.e.fz 6
  go_upto_region 13 with fail
  have H4 : Aside (T3 w (w3.setCell ⟨g1, 6, none⟩ (.bool false)) g0 g1 g2 gp L 0 0 0 0 (.slice none 0 0) 0 false) := H3.out.act (stp_one _ _ _ _) (H3.out.e.setO false)
  generalize w3.setCell ⟨g1, 6, none⟩ (.bool false) = w4 at *
  clear H3 k0 k1 d0 d1
  have d2 : w4.cell? ⟨gp, q, none⟩ = some (.string (st z)) := H4.out.p q z HN.out.1
  have d0 : w4.cell? ⟨gp, 0, none⟩ = some (.string (st a)) := H4.out.p 0 a (by rw [HR.out.1]; rfl)
  go_wp2_with fail
  refine (KN.out _).mono ?_
  rintro _ w4 ⟨rfl, rfl⟩
  clear KN d2
  have h5 : p = 5 := by have h1 := HR.out.2; rw [HXhR.out] at h1; exact h1
  have hpe : ((p : Int) != 5) = false := by rw [h5]; rfl
  have hp2' : (2 : Int) < (p : Int) := by omega
  have hp3' : (3 : Int) < (p : Int) := by omega
  have hp4' : (4 : Int) < (p : Int) := by omega
  have hlen : c.length ≤ 2000 ∧ d.length ≤ 2000 ∧ e.length ≤ 2000 := by
    refine ⟨?_, ?_, ?_⟩
    · have h1 := spl_mem_len 32 s c (by rw [← HL.out.1, HR.out.1, HXhR.out]; simp); omega
    · have h1 := spl_mem_len 32 s d (by rw [← HL.out.1, HR.out.1, HXhR.out]; simp); omega
    · have h1 := spl_mem_len 32 s e (by rw [← HL.out.1, HR.out.1, HXhR.out]; simp); omega
  clear h5
  have hTl : T.length ≤ 3000 := by
    have h1 := spl_glue 32 s
    rw [← HL.out.1, HR.out.1, HXhR.out] at h1
    have h2 := congrArg List.length h1
    rw [HXhT.out]
    simp [Lib.join] at h2 ⊢
    omega
  go_upto_region 21 with fail
  obtain ⟨S0, hS0⟩ : ∃ S, S = st c := ⟨_, rfl⟩
  obtain ⟨Sd, hSd⟩ : ∃ S, S = st d := ⟨_, rfl⟩
  obtain ⟨Se, hSe⟩ : ∃ S, S = st e := ⟨_, rfl⟩
  obtain ⟨S1, e1⟩ : ∃ S, S0 ++ (⟨#[32]⟩ : ByteArray) = S := ⟨_, rfl⟩
  obtain ⟨S2, e2⟩ : ∃ S, S1 ++ Sd = S := ⟨_, rfl⟩
  obtain ⟨S3, e3⟩ : ∃ S, S2 ++ (⟨#[32]⟩ : ByteArray) = S := ⟨_, rfl⟩
  obtain ⟨S4, e4⟩ : ∃ S, S3 ++ Se = S := ⟨_, rfl⟩
  have hs32 : (⟨#[32]⟩ : ByteArray) = st [32] := rfl
  have g1' : S1 = st (c ++ [32]) := by rw [← e1, hS0, hs32, st_append]
  have g2' : S2 = st (c ++ [32] ++ d) := by rw [← e2, g1', hSd, st_append]
  have g3' : S3 = st (c ++ [32] ++ d ++ [32]) := by rw [← e3, g2', hs32, st_append]
  have g4' : S4 = st T := by rw [← e4, g3', hSe, st_append, HXhT.out]; simp
  have n0 : S0.size = c.length := by rw [hS0, st_size]
  have nd : Sd.size = d.length := by rw [hSd, st_size]
  have ne : Se.size = e.length := by rw [hSe, st_size]
  have n1 : S1.size = c.length + 1 := by rw [g1', st_size]; simp
  have n2 : S2.size = c.length + 1 + d.length := by rw [g2', st_size]; simp; omega
  have n3 : S3.size = c.length + 1 + d.length + 1 := by rw [g3', st_size]; simp; omega
  have hr1 : ¬ 9223372036854775807 < S0.size + 1 := by omega
  have hr1b : ¬ 9223372036854775807 < S0.size + (⟨#[32]⟩ : ByteArray).size := hr1
  have hr2 : ¬ 9223372036854775807 < S1.size + Sd.size := by omega
  have hr3 : ¬ 9223372036854775807 < S2.size + 1 := by omega
  have hr3b : ¬ 9223372036854775807 < S2.size + (⟨#[32]⟩ : ByteArray).size := hr3
  have hr4 : ¬ 9223372036854775807 < S3.size + Se.size := by omega
  have KR : ∀ W', Stp [] w4 [] W' → Calls Tryz.prog 39 #[.string S4] W' fun en w' => en = .returned (.tuple #[.agg #[.int .u32 (0 : Int), .int .u8 (0 : Int), .int .u8 (0 : Int)], .int .i64 8]) ∧ Stp [] w4 [] w' := fun W' hs => by
    have h := rread_run T hTl W'
    rw [HXhrv.out, ← g4'] at h
    exact h.mono fun _ _ ⟨h1, h2⟩ => ⟨h1, hs.trans h2⟩
  have KR := Lib.hid KR
  have HC : Aside (∀ W', Stp [] w4 [] W' → W'.cell? ⟨gp, 2, none⟩ = some (.string S0) ∧ W'.cell? ⟨gp, 3, none⟩ = some (.string Sd) ∧ W'.cell? ⟨gp, 4, none⟩ = some (.string Se)) := fun W' hs => by
    have q := (H4.out.stays hs).p
    exact ⟨by rw [hS0]; exact q 2 c (by rw [HR.out.1, HXhR.out]; rfl), by rw [hSd]; exact q 3 d (by rw [HR.out.1, HXhR.out]; rfl), by rw [hSe]; exact q 4 e (by rw [HR.out.1, HXhR.out]; rfl)⟩
  have HC2 : Aside (∀ W', Stp [] w4 [] W' → T3 w (((W'.setCell ⟨g1, 1, none⟩ (.int .u32 (0 : Int))).setCell ⟨g1, 2, none⟩ (.int .u8 (0 : Int))).setCell ⟨g1, 3, none⟩ (.int .u8 (0 : Int))) g0 g1 g2 gp L 0 0 0 0 (.slice none 0 0) 0 false) := fun W' hs =>
    (H4.out.stays hs).act (((stp_one _ _ _ _).trans (stp_one _ _ _ _)).trans (stp_one _ _ _ _)) ((H4.out.stays hs).e.setA 0 0 0)
  have HC3 : Aside (∀ W', Stp [] w4 [] W' → (((W'.setCell ⟨g1, 1, none⟩ (.int .u32 (0 : Int))).setCell ⟨g1, 2, none⟩ (.int .u8 (0 : Int))).setCell ⟨g1, 3, none⟩ (.int .u8 (0 : Int))).cell? ⟨gp, 2, none⟩ = some (.string S0) ∧ (((W'.setCell ⟨g1, 1, none⟩ (.int .u32 (0 : Int))).setCell ⟨g1, 2, none⟩ (.int .u8 (0 : Int))).setCell ⟨g1, 3, none⟩ (.int .u8 (0 : Int))).cell? ⟨gp, 3, none⟩ = some (.string Sd) ∧ (((W'.setCell ⟨g1, 1, none⟩ (.int .u32 (0 : Int))).setCell ⟨g1, 2, none⟩ (.int .u8 (0 : Int))).setCell ⟨g1, 3, none⟩ (.int .u8 (0 : Int))).cell? ⟨gp, 4, none⟩ = some (.string Se)) := fun W' hs => by
    have q := (HC2.out W' hs).p
    exact ⟨by rw [hS0]; exact q 2 c (by rw [HR.out.1, HXhR.out]; rfl), by rw [hSd]; exact q 3 d (by rw [HR.out.1, HXhR.out]; rfl), by rw [hSe]; exact q 4 e (by rw [HR.out.1, HXhR.out]; rfl)⟩
  have hcur : Stp [] w4 [] w4.drew := Stp.drew _ _
  clear hS0 hSd hSe hs32 g1' g2' g3' g4' n0 nd ne n1 n2 n3 hlen hTl d0
  go_region_held3 (fun W' => W'.cell? ⟨gp, 2, none⟩ = some (.string S0) ∧ W'.cell? ⟨gp, 3, none⟩ = some (.string Sd) ∧ W'.cell? ⟨gp, 4, none⟩ = some (.string Se))
    (first | exact HC.out _ hcur | exact HC3.out _ hcur | assumption)
    (first
      | (go_at_call 39
         refine (KR.out _ hcur).mono ?_
         rintro _ w5 ⟨rfl, s5⟩
         replace hcur := s5
         have b1 := (H4.out.stays s5).e.c1
         have b2 := (H4.out.stays s5).e.c2
         have b3 := (H4.out.stays s5).e.c3
         have y1 := (H4.out.stays s5).e.fz 1
         have y2 := (H4.out.stays s5).e.fz 2
         have y3 := (H4.out.stays s5).e.fz 3))
  have H5 := HC2.out _ hcur
  have H5 : Aside (T3 w (((w5.setCell ⟨g1, 1, none⟩ (.int .u32 (0 : Int))).setCell ⟨g1, 2, none⟩ (.int .u8 (0 : Int))).setCell ⟨g1, 3, none⟩ (.int .u8 (0 : Int))) g0 g1 g2 gp L 0 0 0 0 (.slice none 0 0) 0 false) := H5
  generalize ((w5.setCell ⟨g1, 1, none⟩ (.int .u32 (0 : Int))).setCell ⟨g1, 2, none⟩ (.int .u8 (0 : Int))).setCell ⟨g1, 3, none⟩ (.int .u8 (0 : Int)) = w6 at *
  clear b1 b2 b3 y1 y2 y3 HC HC2 HC3 KR H4 hcur e1 e2 e3 e4 hr1 hr1b hr2 hr3 hr3b hr4
  have d0 : w6.cell? ⟨gp, 0, none⟩ = some (.string (st a)) := H5.out.p 0 a (by rw [HR.out.1]; rfl)
  go_upto_region 24 with fail
  have k0 := H5.out.e.c0
  have k1 := H5.out.e.fz 0
  go_upto_region 25 with fail
  have H6 : Aside (T3 w (w6.setCell ⟨g1, 0, none⟩ (.int .i64 1)) g0 g1 g2 gp L 1 0 0 0 (.slice none 0 0) 0 false) := H5.out.act (stp_one _ _ _ _) (H5.out.e.setK 1)
  generalize w6.setCell ⟨g1, 0, none⟩ (.int .i64 1) = w7 at *
  clear H5 k0 k1
  go_upto_region 39 with fail
  clear d0
  have c0 := H6.out.r.c0
  have c1 := H6.out.r.c1
  have c2 := H6.out.r.c2
  have c3 := H6.out.r.c3
  have c4 := H6.out.r.c4
  have c5 := H6.out.r.c5
  have c6 := H6.out.r.c6
  have e0 := H6.out.z.c0
  have e1 := H6.out.z.c1
  have e2 := H6.out.z.c2
  have e3 := H6.out.z.c3
  have e4 := H6.out.z.c4
  have e5 := H6.out.z.c5
  have e6 := H6.out.z.c6
  have z0 := H6.out.r.fz 0
  have z1 := H6.out.r.fz 1
  have z2 := H6.out.r.fz 2
  have z3 := H6.out.r.fz 3
  have z4 := H6.out.r.fz 4
  have z5 := H6.out.r.fz 5
  have z6 := H6.out.r.fz 6
  go_wp2
  refine bodyPost_ret (res_eff2 rfl _ rfl (H6.out.r.set7 0 0 0 0 (.slice none 0 0) 0 false)) rfl ?_
  refine ⟨(H6.out.stp.fresh (stp7 _ _ _ _ _ _ _ _ _) (by have := H6.out.lo; simp; omega)).none, ?_⟩
  rw [HRF.out]
  rfl
end Go.Proofs.YthfiilhbgogoaaaGreatDoor
