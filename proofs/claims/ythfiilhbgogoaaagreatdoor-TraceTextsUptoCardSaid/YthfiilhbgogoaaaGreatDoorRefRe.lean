/-
  The document's Read of a line, way by way.
-/
import Derived.Test.YthfiilhbgogoaaaGreatDoorRefRd
import Derived.Test.YthfiilhbgogoaaaGreatDoorRefBy
import Derived.Test.YthfiilhbgogoaaaGreatDoorRefH
import Derived.Deep.DeepCutAuto
import Derived.Deep.CutBlock
namespace Go.Proofs.YthfiilhbgogoaaaGreatDoor
open Go.RowKit Go.Lib
set_option linter.unusedVariables false
set_option linter.unusedSimpArgs false


set_option maxHeartbeats 2000000 in
set_option maxRecDepth 100000 in
theorem rd_sig2 (s : List UInt8) (hs : s.length ≤ 2000) (w : World) (h1 : s ≠ [101, 110, 100]) (h2 : s ≠ [104, 105, 115, 116, 111, 114, 121]) (a b : List UInt8) (R : List (List UInt8)) (hL : spl 32 s = a :: b :: R) (ha : a = [115, 105, 103, 110, 97, 108]) (hR : R = []) (v : Nat) (hv : rnum 10 18 b = some v) : Calls Tryz.prog 24 #[.string (st s)] w (EffTo (rf s) w) := by
  have HRF : Hid (rf s = some (4, { E0 with n := v })) := Lib.hid (by
    unfold rf
    rw [if_neg h1, if_neg h2, hL]
    subst hR
    simp [rfL, ha, tks, tk, num_rnum, hv])
  have q1 : ((st s).toList == [101, 110, 100]) = false := by rw [st_toList]; exact beq_eq_false_iff_ne.2 h1
  have q2 : ((st s).toList == [104, 105, 115, 116, 111, 114, 121]) = false := by rw [st_toList]; exact beq_eq_false_iff_ne.2 h2
  have qagot : ((st a).toList == [103, 111, 116]) = false := by rw [st_toList, ha]; rfl
  have qawas : ((st a).toList == [119, 97, 115]) = false := by rw [st_toList, ha]; rfl
  have qawrote : ((st a).toList == [119, 114, 111, 116, 101]) = false := by rw [st_toList, ha]; rfl
  have qaread : ((st a).toList == [114, 101, 97, 100]) = false := by rw [st_toList, ha]; rfl
  have qasignal : ((st a).toList == [115, 105, 103, 110, 97, 108]) = true := by rw [st_toList, ha]; rfl
  obtain ⟨okb, qb1⟩ : ∃ o, ((st b).toList == [111, 107]) = o := ⟨_, rfl⟩
  have HRn := Lib.hid hR
  have HV := Lib.hid hv
  clear hR hv
  have HLL := Lib.hid hL
  clear hL h1 h2 ha
  have KC := Lib.hid (fun W => rcut_run s 32 (by omega) W)
  have cv : ((32 : UInt8).toNat : Int) = 32 := rfl
  rw [cv] at KC
  clear cv
  go_enter Tryz.func24, Tryz.ntmps24
  have H0 : Aside (EAt (w.alloc (.cells #[.int .i64 0, .int .u32 0, .int .u8 0, .int .u8 0, .slice none 0 0, .int .i64 0, .bool false] 43)) w.heap.size 0 0 0 0 (.slice none 0 0) 0 false ∧ Stp [] w [] (w.alloc (.cells #[.int .i64 0, .int .u32 0, .int .u8 0, .int .u8 0, .slice none 0 0, .int .i64 0, .bool false] 43)) ∧ (w.alloc (.cells #[.int .i64 0, .int .u32 0, .int .u8 0, .int .u8 0, .slice none 0 0, .int .i64 0, .bool false] 43)).heap.size = w.heap.size + 1) := ⟨heap_alloc_new w _, Stp.alloc [] w _, by simp⟩
  obtain ⟨g0, hg0⟩ : ∃ g0, g0 = w.heap.size := ⟨_, rfl⟩
  rw [← hg0] at H0
  go_upto_region 1 with fail
  rw [← hg0]
  have HG := Lib.hid hg0
  generalize w.alloc (.cells #[.int .i64 0, .int .u32 0, .int .u8 0, .int .u8 0, .slice none 0 0, .int .i64 0, .bool false] 43) = w0 at *
  clear hg0
  go_wp2_with fail
  refine (KC.out _).mono ?_
  rintro _ w1 ⟨v, rfl, ho, s1⟩
  obtain ⟨a, cap, rfl, hno, hpc, hcm, hcell⟩ := ho.form
  rcases a with _ | ad
  · exact absurd (hno rfl).2 (spl_ne 32 s)
  obtain ⟨gp, rfl, hb1, hb2, hpcs⟩ := hcell ad rfl
  obtain ⟨L, hL⟩ : ∃ L, L = spl 32 s := ⟨_, rfl⟩
  obtain ⟨p, hp⟩ : ∃ p, p = L.length := ⟨_, rfl⟩
  rw [← hL] at hpc hpcs ⊢
  rw [← hp] at hpc ⊢
  have HL := Lib.hid (And.intro hL hp)
  have H1 : Aside (EAt w1 g0 0 0 0 0 (.slice none 0 0) 0 false ∧ Stp [] w [] w1 ∧ (∀ j x, L[j]? = some x → w1.cell? ⟨gp, j, none⟩ = some (.string (st x))) ∧ g0 < gp ∧ gp < w1.heap.size) := ⟨H0.out.1.other s1 (by simp), H0.out.2.1.trans s1, hpcs, by have := H0.out.2.2; omega, hb2⟩
  clear H0 s1 ho hno hpcs hcell hb1 hb2 hL hp KC
  go_upto_region 3 with fail
  have H2 : Aside (EAt (w1.alloc (.cells #[.int .i64 0, .int .u32 0, .int .u8 0, .int .u8 0, .slice none 0 0, .int .i64 0, .bool false] 43)) g0 0 0 0 0 (.slice none 0 0) 0 false ∧ EAt (w1.alloc (.cells #[.int .i64 0, .int .u32 0, .int .u8 0, .int .u8 0, .slice none 0 0, .int .i64 0, .bool false] 43)) w1.heap.size 0 0 0 0 (.slice none 0 0) 0 false ∧ Stp [] w [] (w1.alloc (.cells #[.int .i64 0, .int .u32 0, .int .u8 0, .int .u8 0, .slice none 0 0, .int .i64 0, .bool false] 43)) ∧ (∀ j x, L[j]? = some x → (w1.alloc (.cells #[.int .i64 0, .int .u32 0, .int .u8 0, .int .u8 0, .slice none 0 0, .int .i64 0, .bool false] 43)).cell? ⟨gp, j, none⟩ = some (.string (st x))) ∧ (g0 < gp ∧ gp < w1.heap.size ∧ w1.heap.size < (w1.alloc (.cells #[.int .i64 0, .int .u32 0, .int .u8 0, .int .u8 0, .slice none 0 0, .int .i64 0, .bool false] 43)).heap.size)) :=
    ⟨H1.out.1.other (Stp.alloc [] _ _) (by simp), heap_alloc_new w1 _, H1.out.2.1.trans (Stp.alloc [] _ _), fun j x hx => ((Stp.alloc [] w1 (.cells #[.int .i64 0, .int .u32 0, .int .u8 0, .int .u8 0, .slice none 0 0, .int .i64 0, .bool false] 43)).cell (a := ⟨gp, j, none⟩) H1.out.2.2.2.2 (by simp)).trans (H1.out.2.2.1 j x hx), H1.out.2.2.2.1, H1.out.2.2.2.2, by simp⟩
  generalize w1.alloc (.cells #[.int .i64 0, .int .u32 0, .int .u8 0, .int .u8 0, .slice none 0 0, .int .i64 0, .bool false] 43) = w2 at *
  generalize w1.heap.size = g1 at *
  have c0 := H2.out.2.1.c0
  have c1 := H2.out.2.1.c1
  have c2 := H2.out.2.1.c2
  have c3 := H2.out.2.1.c3
  have c4 := H2.out.2.1.c4
  have c5 := H2.out.2.1.c5
  have c6 := H2.out.2.1.c6
  clear H1
  go_upto_region 4 with fail
  have H3 : Aside (T3 w (w2.alloc (.cells #[.int .i64 0, .int .u32 0, .int .u8 0, .int .u8 0, .slice none 0 0, .int .i64 0, .bool false] 43)) g0 g1 w2.heap.size gp L 0 0 0 0 (.slice none 0 0) 0 false) :=
    ⟨H2.out.1.other (Stp.alloc [] _ _) (by simp), H2.out.2.1.other (Stp.alloc [] _ _) (by simp), heap_alloc_new w2 _, H2.out.2.2.1.trans (Stp.alloc [] _ _), fun j x hx => ((Stp.alloc [] w2 (.cells #[.int .i64 0, .int .u32 0, .int .u8 0, .int .u8 0, .slice none 0 0, .int .i64 0, .bool false] 43)).cell (a := ⟨gp, j, none⟩) (Nat.lt_trans H2.out.2.2.2.2.2.1 H2.out.2.2.2.2.2.2) (by simp)).trans (H2.out.2.2.2.1 j x hx), by rw [HG.out]; exact Nat.le_refl _, H2.out.2.2.2.2.1, H2.out.2.2.2.2.2.1, H2.out.2.2.2.2.2.2, by have := H2.out.2.2.2.2; simp; omega⟩
  generalize w2.alloc (.cells #[.int .i64 0, .int .u32 0, .int .u8 0, .int .u8 0, .slice none 0 0, .int .i64 0, .bool false] 43) = w3 at *
  generalize w2.heap.size = g2 at *
  clear H2 c0 c1 c2 c3 c4 c5 c6
  have hLL : L = a :: b :: R := HL.out.1.trans HLL.out
  have d0 : w3.cell? ⟨gp, 0, none⟩ = some (.string (st a)) := H3.out.p 0 a (by rw [hLL]; rfl)
  have d1 : w3.cell? ⟨gp, 1, none⟩ = some (.string (st b)) := H3.out.p 1 b (by rw [hLL]; rfl)
  have hpR : p = R.length + 2 := by rw [HL.out.2, hLL]; rfl
  have hp2 : ¬ (p : Int) < 2 := by omega
  have hp0 : (0 : Int) < (p : Int) := by omega
  have hp1 : (1 : Int) < (p : Int) := by omega
  have HR := Lib.hid (And.intro hLL hpR)
  clear hLL hpR
  obtain ⟨q, hq⟩ : ∃ q, p = q + 1 := ⟨p - 1, by have := HR.out.2; omega⟩
  obtain ⟨z, hz⟩ : ∃ z, L[q]? = some z := ⟨L[q]'(by have := HL.out.2; omega), List.getElem?_eq_getElem _⟩
  have hzl : z.length ≤ 2000 := by have h1 := spl_mem_len 32 s z (by rw [← HL.out.1]; exact List.mem_of_getElem? hz); omega
  have KN := Lib.hid (fun W => rnum18_run z (by omega) W)
  obtain ⟨nz, hnz⟩ : ∃ nz, nz = rz (rnum 10 18 z) := ⟨_, rfl⟩
  rw [← hnz] at KN
  have HN := Lib.hid (And.intro hz (And.intro hnz hq))
  have hsub : IntKind.i64.wrap ((p : Int) - 1) = (q : Int) := by rw [IntKind.wrap_i64]; have := hcm; simp [maxLen] at this; omega
  have hq0 : (0 : Int) ≤ (q : Int) := by omega
  have hqp : (q : Int) < (p : Int) := by omega
  clear hz hnz hq hzl
  have k0 := H3.out.e.c6
  have k1 := H3.out.e.fz 6
  go_upto_region 13 with fail
  have H4 : Aside (T3 w (w3.setCell ⟨g1, 6, none⟩ (.bool okb)) g0 g1 g2 gp L 0 0 0 0 (.slice none 0 0) 0 okb) := H3.out.act (stp_one _ _ _ _) (H3.out.e.setO okb)
  generalize w3.setCell ⟨g1, 6, none⟩ (.bool okb) = w4 at *
  clear H3 k0 k1 d0 d1
  have d2 : w4.cell? ⟨gp, q, none⟩ = some (.string (st z)) := H4.out.p q z HN.out.1
  have d0 : w4.cell? ⟨gp, 0, none⟩ = some (.string (st a)) := H4.out.p 0 a (by rw [HR.out.1]; rfl)
  go_wp2_with fail
  refine (KN.out _).mono ?_
  rintro _ w4 ⟨rfl, rfl⟩
  clear KN d2
  go_upto_region 35 with fail
  clear d0
  have k0 := H4.out.e.c0
  have k1 := H4.out.e.fz 0
  go_upto_region 36 with fail
  have H5 : Aside (T3 w (w4.setCell ⟨g1, 0, none⟩ (.int .i64 4)) g0 g1 g2 gp L 4 0 0 0 (.slice none 0 0) 0 okb) := H4.out.act (stp_one _ _ _ _) (H4.out.e.setK 4)
  generalize w4.setCell ⟨g1, 0, none⟩ (.int .i64 4) = w5 at *
  clear H4 k0 k1
  have k0 := H5.out.e.c6
  have k1 := H5.out.e.fz 6
  go_upto_region 37 with fail
  have H6 : Aside (T3 w (w5.setCell ⟨g1, 6, none⟩ (.bool false)) g0 g1 g2 gp L 4 0 0 0 (.slice none 0 0) 0 false) := H5.out.act (stp_one _ _ _ _) (H5.out.e.setO false)
  generalize w5.setCell ⟨g1, 6, none⟩ (.bool false) = w6 at *
  clear H5 k0 k1
  have hpe : ((p : Int) == 2) = true := by rw [beq_iff_eq]; have := HR.out.2; rw [HRn.out] at this; simp at this; omega
  have hzb : z = b := by
    have h1 := HN.out.1
    have h2 := HN.out.2.2
    have h3 := HR.out.2
    rw [HR.out.1, HRn.out] at h1
    rw [HRn.out] at h3
    have h4 : q = 1 := by simp at h3; omega
    rw [h4] at h1
    simpa using h1.symm
  obtain rfl : nz = (v : Int) := by rw [HN.out.2.1, hzb, HV.out]; rfl
  have hn0 : ¬ (v : Int) < 0 := by omega
  have hn1 : decide ((v : Int) < 0) = false := decide_eq_false hn0
  clear hzb
  go_upto_region 40 with fail
  have k0 := H6.out.e.c5
  have k1 := H6.out.e.fz 5
  go_upto_region 41 with fail
  have H7 : Aside (T3 w (w6.setCell ⟨g1, 5, none⟩ (.int .i64 (v : Int))) g0 g1 g2 gp L 4 0 0 0 (.slice none 0 0) (v : Int) false) := H6.out.act (stp_one _ _ _ _) (H6.out.e.setN (v : Int))
  generalize w6.setCell ⟨g1, 5, none⟩ (.int .i64 (v : Int)) = w7 at *
  clear H6 k0 k1
  have c0 := H7.out.r.c0
  have c1 := H7.out.r.c1
  have c2 := H7.out.r.c2
  have c3 := H7.out.r.c3
  have c4 := H7.out.r.c4
  have c5 := H7.out.r.c5
  have c6 := H7.out.r.c6
  have e0 := H7.out.e.c0
  have e1 := H7.out.e.c1
  have e2 := H7.out.e.c2
  have e3 := H7.out.e.c3
  have e4 := H7.out.e.c4
  have e5 := H7.out.e.c5
  have e6 := H7.out.e.c6
  have z0 := H7.out.r.fz 0
  have z1 := H7.out.r.fz 1
  have z2 := H7.out.r.fz 2
  have z3 := H7.out.r.fz 3
  have z4 := H7.out.r.fz 4
  have z5 := H7.out.r.fz 5
  have z6 := H7.out.r.fz 6
  go_wp2
  refine bodyPost_ret (res_eff2 rfl _ rfl (H7.out.r.set7 4 0 0 0 (.slice none 0 0) (v : Int) false)) rfl ?_
  refine ⟨(H7.out.stp.fresh (stp7 _ _ _ _ _ _ _ _ _) (by have := H7.out.lo; simp; omega)).none, ?_⟩
  rw [HRF.out]
  exact ⟨_, rfl, none, 0, rfl, Bts.nil _ _, Nat.le_refl _, fun _ => rfl, fun ad h => by cases h⟩

set_option maxHeartbeats 2000000 in
set_option maxRecDepth 100000 in
theorem rd_no (s : List UInt8) (hs : s.length ≤ 2000) (w : World) (h1 : s ≠ [101, 110, 100]) (h2 : s ≠ [104, 105, 115, 116, 111, 114, 121]) (a b : List UInt8) (R : List (List UInt8)) (hL : spl 32 s = a :: b :: R) (ha : a ≠ [115, 105, 103, 110, 97, 108]) (hb : b ≠ [111, 107]) (hb2 : b ≠ [102, 97, 105, 108])  : Calls Tryz.prog 24 #[.string (st s)] w (EffTo (rf s) w) := by
  have HRF : Hid (rf s = none) := Lib.hid (by
    unfold rf
    rw [if_neg h1, if_neg h2, hL]
    rcases R with _ | ⟨c, _ | ⟨d, _ | ⟨e, _ | ⟨f, r⟩⟩⟩⟩ <;> simp [rfL, tks, tk, hb, hb2, ha])
  have q1 : ((st s).toList == [101, 110, 100]) = false := by rw [st_toList]; exact beq_eq_false_iff_ne.2 h1
  have q2 : ((st s).toList == [104, 105, 115, 116, 111, 114, 121]) = false := by rw [st_toList]; exact beq_eq_false_iff_ne.2 h2
  have qasignal : ((st a).toList == [115, 105, 103, 110, 97, 108]) = false := by rw [st_toList]; exact beq_eq_false_iff_ne.2 ha
  have qb1 : ((st b).toList == [111, 107]) = false := by rw [st_toList]; exact beq_eq_false_iff_ne.2 hb
  have qb2 : ((st b).toList == [102, 97, 105, 108]) = false := by rw [st_toList]; exact beq_eq_false_iff_ne.2 hb2
  have HLL := Lib.hid hL
  clear hL h1 h2 ha hb hb2
  have KC := Lib.hid (fun W => rcut_run s 32 (by omega) W)
  have cv : ((32 : UInt8).toNat : Int) = 32 := rfl
  rw [cv] at KC
  clear cv
  go_enter Tryz.func24, Tryz.ntmps24
  have H0 : Aside (EAt (w.alloc (.cells #[.int .i64 0, .int .u32 0, .int .u8 0, .int .u8 0, .slice none 0 0, .int .i64 0, .bool false] 43)) w.heap.size 0 0 0 0 (.slice none 0 0) 0 false ∧ Stp [] w [] (w.alloc (.cells #[.int .i64 0, .int .u32 0, .int .u8 0, .int .u8 0, .slice none 0 0, .int .i64 0, .bool false] 43)) ∧ (w.alloc (.cells #[.int .i64 0, .int .u32 0, .int .u8 0, .int .u8 0, .slice none 0 0, .int .i64 0, .bool false] 43)).heap.size = w.heap.size + 1) := ⟨heap_alloc_new w _, Stp.alloc [] w _, by simp⟩
  obtain ⟨g0, hg0⟩ : ∃ g0, g0 = w.heap.size := ⟨_, rfl⟩
  rw [← hg0] at H0
  go_upto_region 1 with fail
  rw [← hg0]
  have HG := Lib.hid hg0
  generalize w.alloc (.cells #[.int .i64 0, .int .u32 0, .int .u8 0, .int .u8 0, .slice none 0 0, .int .i64 0, .bool false] 43) = w0 at *
  clear hg0
  go_wp2_with fail
  refine (KC.out _).mono ?_
  rintro _ w1 ⟨v, rfl, ho, s1⟩
  obtain ⟨a, cap, rfl, hno, hpc, hcm, hcell⟩ := ho.form
  rcases a with _ | ad
  · exact absurd (hno rfl).2 (spl_ne 32 s)
  obtain ⟨gp, rfl, hb1, hb2, hpcs⟩ := hcell ad rfl
  obtain ⟨L, hL⟩ : ∃ L, L = spl 32 s := ⟨_, rfl⟩
  obtain ⟨p, hp⟩ : ∃ p, p = L.length := ⟨_, rfl⟩
  rw [← hL] at hpc hpcs ⊢
  rw [← hp] at hpc ⊢
  have HL := Lib.hid (And.intro hL hp)
  have H1 : Aside (EAt w1 g0 0 0 0 0 (.slice none 0 0) 0 false ∧ Stp [] w [] w1 ∧ (∀ j x, L[j]? = some x → w1.cell? ⟨gp, j, none⟩ = some (.string (st x))) ∧ g0 < gp ∧ gp < w1.heap.size) := ⟨H0.out.1.other s1 (by simp), H0.out.2.1.trans s1, hpcs, by have := H0.out.2.2; omega, hb2⟩
  clear H0 s1 ho hno hpcs hcell hb1 hb2 hL hp KC
  go_upto_region 3 with fail
  have H2 : Aside (EAt (w1.alloc (.cells #[.int .i64 0, .int .u32 0, .int .u8 0, .int .u8 0, .slice none 0 0, .int .i64 0, .bool false] 43)) g0 0 0 0 0 (.slice none 0 0) 0 false ∧ EAt (w1.alloc (.cells #[.int .i64 0, .int .u32 0, .int .u8 0, .int .u8 0, .slice none 0 0, .int .i64 0, .bool false] 43)) w1.heap.size 0 0 0 0 (.slice none 0 0) 0 false ∧ Stp [] w [] (w1.alloc (.cells #[.int .i64 0, .int .u32 0, .int .u8 0, .int .u8 0, .slice none 0 0, .int .i64 0, .bool false] 43)) ∧ (∀ j x, L[j]? = some x → (w1.alloc (.cells #[.int .i64 0, .int .u32 0, .int .u8 0, .int .u8 0, .slice none 0 0, .int .i64 0, .bool false] 43)).cell? ⟨gp, j, none⟩ = some (.string (st x))) ∧ (g0 < gp ∧ gp < w1.heap.size ∧ w1.heap.size < (w1.alloc (.cells #[.int .i64 0, .int .u32 0, .int .u8 0, .int .u8 0, .slice none 0 0, .int .i64 0, .bool false] 43)).heap.size)) :=
    ⟨H1.out.1.other (Stp.alloc [] _ _) (by simp), heap_alloc_new w1 _, H1.out.2.1.trans (Stp.alloc [] _ _), fun j x hx => ((Stp.alloc [] w1 (.cells #[.int .i64 0, .int .u32 0, .int .u8 0, .int .u8 0, .slice none 0 0, .int .i64 0, .bool false] 43)).cell (a := ⟨gp, j, none⟩) H1.out.2.2.2.2 (by simp)).trans (H1.out.2.2.1 j x hx), H1.out.2.2.2.1, H1.out.2.2.2.2, by simp⟩
  generalize w1.alloc (.cells #[.int .i64 0, .int .u32 0, .int .u8 0, .int .u8 0, .slice none 0 0, .int .i64 0, .bool false] 43) = w2 at *
  generalize w1.heap.size = g1 at *
  have c0 := H2.out.2.1.c0
  have c1 := H2.out.2.1.c1
  have c2 := H2.out.2.1.c2
  have c3 := H2.out.2.1.c3
  have c4 := H2.out.2.1.c4
  have c5 := H2.out.2.1.c5
  have c6 := H2.out.2.1.c6
  clear H1
  go_upto_region 4 with fail
  have H3 : Aside (T3 w (w2.alloc (.cells #[.int .i64 0, .int .u32 0, .int .u8 0, .int .u8 0, .slice none 0 0, .int .i64 0, .bool false] 43)) g0 g1 w2.heap.size gp L 0 0 0 0 (.slice none 0 0) 0 false) :=
    ⟨H2.out.1.other (Stp.alloc [] _ _) (by simp), H2.out.2.1.other (Stp.alloc [] _ _) (by simp), heap_alloc_new w2 _, H2.out.2.2.1.trans (Stp.alloc [] _ _), fun j x hx => ((Stp.alloc [] w2 (.cells #[.int .i64 0, .int .u32 0, .int .u8 0, .int .u8 0, .slice none 0 0, .int .i64 0, .bool false] 43)).cell (a := ⟨gp, j, none⟩) (Nat.lt_trans H2.out.2.2.2.2.2.1 H2.out.2.2.2.2.2.2) (by simp)).trans (H2.out.2.2.2.1 j x hx), by rw [HG.out]; exact Nat.le_refl _, H2.out.2.2.2.2.1, H2.out.2.2.2.2.2.1, H2.out.2.2.2.2.2.2, by have := H2.out.2.2.2.2; simp; omega⟩
  generalize w2.alloc (.cells #[.int .i64 0, .int .u32 0, .int .u8 0, .int .u8 0, .slice none 0 0, .int .i64 0, .bool false] 43) = w3 at *
  generalize w2.heap.size = g2 at *
  clear H2 c0 c1 c2 c3 c4 c5 c6
  have hLL : L = a :: b :: R := HL.out.1.trans HLL.out
  have d0 : w3.cell? ⟨gp, 0, none⟩ = some (.string (st a)) := H3.out.p 0 a (by rw [hLL]; rfl)
  have d1 : w3.cell? ⟨gp, 1, none⟩ = some (.string (st b)) := H3.out.p 1 b (by rw [hLL]; rfl)
  have hpR : p = R.length + 2 := by rw [HL.out.2, hLL]; rfl
  have hp2 : ¬ (p : Int) < 2 := by omega
  have hp0 : (0 : Int) < (p : Int) := by omega
  have hp1 : (1 : Int) < (p : Int) := by omega
  have HR := Lib.hid (And.intro hLL hpR)
  clear hLL hpR
  go_upto_region 11 with fail
  have c0 := H3.out.r.c0
  have c1 := H3.out.r.c1
  have c2 := H3.out.r.c2
  have c3 := H3.out.r.c3
  have c4 := H3.out.r.c4
  have c5 := H3.out.r.c5
  have c6 := H3.out.r.c6
  have e0 := H3.out.z.c0
  have e1 := H3.out.z.c1
  have e2 := H3.out.z.c2
  have e3 := H3.out.z.c3
  have e4 := H3.out.z.c4
  have e5 := H3.out.z.c5
  have e6 := H3.out.z.c6
  have z0 := H3.out.r.fz 0
  have z1 := H3.out.r.fz 1
  have z2 := H3.out.r.fz 2
  have z3 := H3.out.r.fz 3
  have z4 := H3.out.r.fz 4
  have z5 := H3.out.r.fz 5
  have z6 := H3.out.r.fz 6
  go_wp2
  refine bodyPost_ret (res_eff2 rfl _ rfl (H3.out.r.set7 0 0 0 0 (.slice none 0 0) 0 false)) rfl ?_
  refine ⟨(H3.out.stp.fresh (stp7 _ _ _ _ _ _ _ _ _) (by have := H3.out.lo; simp; omega)).none, ?_⟩
  rw [HRF.out]
  rfl

set_option maxHeartbeats 2000000 in
set_option maxRecDepth 100000 in
theorem rd_sig2n (s : List UInt8) (hs : s.length ≤ 2000) (w : World) (h1 : s ≠ [101, 110, 100]) (h2 : s ≠ [104, 105, 115, 116, 111, 114, 121]) (a b : List UInt8) (R : List (List UInt8)) (hL : spl 32 s = a :: b :: R) (ha : a = [115, 105, 103, 110, 97, 108]) (hR : R = []) (hv : rnum 10 18 b = none) : Calls Tryz.prog 24 #[.string (st s)] w (EffTo (rf s) w) := by
  have HRF : Hid (rf s = none) := Lib.hid (by
    unfold rf
    rw [if_neg h1, if_neg h2, hL]
    subst hR
    simp [rfL, ha, tks, tk, num_rnum, hv])
  have q1 : ((st s).toList == [101, 110, 100]) = false := by rw [st_toList]; exact beq_eq_false_iff_ne.2 h1
  have q2 : ((st s).toList == [104, 105, 115, 116, 111, 114, 121]) = false := by rw [st_toList]; exact beq_eq_false_iff_ne.2 h2
  have qagot : ((st a).toList == [103, 111, 116]) = false := by rw [st_toList, ha]; rfl
  have qawas : ((st a).toList == [119, 97, 115]) = false := by rw [st_toList, ha]; rfl
  have qawrote : ((st a).toList == [119, 114, 111, 116, 101]) = false := by rw [st_toList, ha]; rfl
  have qaread : ((st a).toList == [114, 101, 97, 100]) = false := by rw [st_toList, ha]; rfl
  have qasignal : ((st a).toList == [115, 105, 103, 110, 97, 108]) = true := by rw [st_toList, ha]; rfl
  obtain ⟨okb, qb1⟩ : ∃ o, ((st b).toList == [111, 107]) = o := ⟨_, rfl⟩
  have HRn := Lib.hid hR
  have HV := Lib.hid hv
  clear hR hv
  have HLL := Lib.hid hL
  clear hL h1 h2 ha
  have KC := Lib.hid (fun W => rcut_run s 32 (by omega) W)
  have cv : ((32 : UInt8).toNat : Int) = 32 := rfl
  rw [cv] at KC
  clear cv
  go_enter Tryz.func24, Tryz.ntmps24
  have H0 : Aside (EAt (w.alloc (.cells #[.int .i64 0, .int .u32 0, .int .u8 0, .int .u8 0, .slice none 0 0, .int .i64 0, .bool false] 43)) w.heap.size 0 0 0 0 (.slice none 0 0) 0 false ∧ Stp [] w [] (w.alloc (.cells #[.int .i64 0, .int .u32 0, .int .u8 0, .int .u8 0, .slice none 0 0, .int .i64 0, .bool false] 43)) ∧ (w.alloc (.cells #[.int .i64 0, .int .u32 0, .int .u8 0, .int .u8 0, .slice none 0 0, .int .i64 0, .bool false] 43)).heap.size = w.heap.size + 1) := ⟨heap_alloc_new w _, Stp.alloc [] w _, by simp⟩
  obtain ⟨g0, hg0⟩ : ∃ g0, g0 = w.heap.size := ⟨_, rfl⟩
  rw [← hg0] at H0
  go_upto_region 1 with fail
  rw [← hg0]
  have HG := Lib.hid hg0
  generalize w.alloc (.cells #[.int .i64 0, .int .u32 0, .int .u8 0, .int .u8 0, .slice none 0 0, .int .i64 0, .bool false] 43) = w0 at *
  clear hg0
  go_wp2_with fail
  refine (KC.out _).mono ?_
  rintro _ w1 ⟨v, rfl, ho, s1⟩
  obtain ⟨a, cap, rfl, hno, hpc, hcm, hcell⟩ := ho.form
  rcases a with _ | ad
  · exact absurd (hno rfl).2 (spl_ne 32 s)
  obtain ⟨gp, rfl, hb1, hb2, hpcs⟩ := hcell ad rfl
  obtain ⟨L, hL⟩ : ∃ L, L = spl 32 s := ⟨_, rfl⟩
  obtain ⟨p, hp⟩ : ∃ p, p = L.length := ⟨_, rfl⟩
  rw [← hL] at hpc hpcs ⊢
  rw [← hp] at hpc ⊢
  have HL := Lib.hid (And.intro hL hp)
  have H1 : Aside (EAt w1 g0 0 0 0 0 (.slice none 0 0) 0 false ∧ Stp [] w [] w1 ∧ (∀ j x, L[j]? = some x → w1.cell? ⟨gp, j, none⟩ = some (.string (st x))) ∧ g0 < gp ∧ gp < w1.heap.size) := ⟨H0.out.1.other s1 (by simp), H0.out.2.1.trans s1, hpcs, by have := H0.out.2.2; omega, hb2⟩
  clear H0 s1 ho hno hpcs hcell hb1 hb2 hL hp KC
  go_upto_region 3 with fail
  have H2 : Aside (EAt (w1.alloc (.cells #[.int .i64 0, .int .u32 0, .int .u8 0, .int .u8 0, .slice none 0 0, .int .i64 0, .bool false] 43)) g0 0 0 0 0 (.slice none 0 0) 0 false ∧ EAt (w1.alloc (.cells #[.int .i64 0, .int .u32 0, .int .u8 0, .int .u8 0, .slice none 0 0, .int .i64 0, .bool false] 43)) w1.heap.size 0 0 0 0 (.slice none 0 0) 0 false ∧ Stp [] w [] (w1.alloc (.cells #[.int .i64 0, .int .u32 0, .int .u8 0, .int .u8 0, .slice none 0 0, .int .i64 0, .bool false] 43)) ∧ (∀ j x, L[j]? = some x → (w1.alloc (.cells #[.int .i64 0, .int .u32 0, .int .u8 0, .int .u8 0, .slice none 0 0, .int .i64 0, .bool false] 43)).cell? ⟨gp, j, none⟩ = some (.string (st x))) ∧ (g0 < gp ∧ gp < w1.heap.size ∧ w1.heap.size < (w1.alloc (.cells #[.int .i64 0, .int .u32 0, .int .u8 0, .int .u8 0, .slice none 0 0, .int .i64 0, .bool false] 43)).heap.size)) :=
    ⟨H1.out.1.other (Stp.alloc [] _ _) (by simp), heap_alloc_new w1 _, H1.out.2.1.trans (Stp.alloc [] _ _), fun j x hx => ((Stp.alloc [] w1 (.cells #[.int .i64 0, .int .u32 0, .int .u8 0, .int .u8 0, .slice none 0 0, .int .i64 0, .bool false] 43)).cell (a := ⟨gp, j, none⟩) H1.out.2.2.2.2 (by simp)).trans (H1.out.2.2.1 j x hx), H1.out.2.2.2.1, H1.out.2.2.2.2, by simp⟩
  generalize w1.alloc (.cells #[.int .i64 0, .int .u32 0, .int .u8 0, .int .u8 0, .slice none 0 0, .int .i64 0, .bool false] 43) = w2 at *
  generalize w1.heap.size = g1 at *
  have c0 := H2.out.2.1.c0
  have c1 := H2.out.2.1.c1
  have c2 := H2.out.2.1.c2
  have c3 := H2.out.2.1.c3
  have c4 := H2.out.2.1.c4
  have c5 := H2.out.2.1.c5
  have c6 := H2.out.2.1.c6
  clear H1
  go_upto_region 4 with fail
  have H3 : Aside (T3 w (w2.alloc (.cells #[.int .i64 0, .int .u32 0, .int .u8 0, .int .u8 0, .slice none 0 0, .int .i64 0, .bool false] 43)) g0 g1 w2.heap.size gp L 0 0 0 0 (.slice none 0 0) 0 false) :=
    ⟨H2.out.1.other (Stp.alloc [] _ _) (by simp), H2.out.2.1.other (Stp.alloc [] _ _) (by simp), heap_alloc_new w2 _, H2.out.2.2.1.trans (Stp.alloc [] _ _), fun j x hx => ((Stp.alloc [] w2 (.cells #[.int .i64 0, .int .u32 0, .int .u8 0, .int .u8 0, .slice none 0 0, .int .i64 0, .bool false] 43)).cell (a := ⟨gp, j, none⟩) (Nat.lt_trans H2.out.2.2.2.2.2.1 H2.out.2.2.2.2.2.2) (by simp)).trans (H2.out.2.2.2.1 j x hx), by rw [HG.out]; exact Nat.le_refl _, H2.out.2.2.2.2.1, H2.out.2.2.2.2.2.1, H2.out.2.2.2.2.2.2, by have := H2.out.2.2.2.2; simp; omega⟩
  generalize w2.alloc (.cells #[.int .i64 0, .int .u32 0, .int .u8 0, .int .u8 0, .slice none 0 0, .int .i64 0, .bool false] 43) = w3 at *
  generalize w2.heap.size = g2 at *
  clear H2 c0 c1 c2 c3 c4 c5 c6
  have hLL : L = a :: b :: R := HL.out.1.trans HLL.out
  have d0 : w3.cell? ⟨gp, 0, none⟩ = some (.string (st a)) := H3.out.p 0 a (by rw [hLL]; rfl)
  have d1 : w3.cell? ⟨gp, 1, none⟩ = some (.string (st b)) := H3.out.p 1 b (by rw [hLL]; rfl)
  have hpR : p = R.length + 2 := by rw [HL.out.2, hLL]; rfl
  have hp2 : ¬ (p : Int) < 2 := by omega
  have hp0 : (0 : Int) < (p : Int) := by omega
  have hp1 : (1 : Int) < (p : Int) := by omega
  have HR := Lib.hid (And.intro hLL hpR)
  clear hLL hpR
  obtain ⟨q, hq⟩ : ∃ q, p = q + 1 := ⟨p - 1, by have := HR.out.2; omega⟩
  obtain ⟨z, hz⟩ : ∃ z, L[q]? = some z := ⟨L[q]'(by have := HL.out.2; omega), List.getElem?_eq_getElem _⟩
  have hzl : z.length ≤ 2000 := by have h1 := spl_mem_len 32 s z (by rw [← HL.out.1]; exact List.mem_of_getElem? hz); omega
  have KN := Lib.hid (fun W => rnum18_run z (by omega) W)
  obtain ⟨nz, hnz⟩ : ∃ nz, nz = rz (rnum 10 18 z) := ⟨_, rfl⟩
  rw [← hnz] at KN
  have HN := Lib.hid (And.intro hz (And.intro hnz hq))
  have hsub : IntKind.i64.wrap ((p : Int) - 1) = (q : Int) := by rw [IntKind.wrap_i64]; have := hcm; simp [maxLen] at this; omega
  have hq0 : (0 : Int) ≤ (q : Int) := by omega
  have hqp : (q : Int) < (p : Int) := by omega
  clear hz hnz hq hzl
  have k0 := H3.out.e.c6
  have k1 := H3.out.e.fz 6
  go_upto_region 13 with fail
  have H4 : Aside (T3 w (w3.setCell ⟨g1, 6, none⟩ (.bool okb)) g0 g1 g2 gp L 0 0 0 0 (.slice none 0 0) 0 okb) := H3.out.act (stp_one _ _ _ _) (H3.out.e.setO okb)
  generalize w3.setCell ⟨g1, 6, none⟩ (.bool okb) = w4 at *
  clear H3 k0 k1 d0 d1
  have d2 : w4.cell? ⟨gp, q, none⟩ = some (.string (st z)) := H4.out.p q z HN.out.1
  have d0 : w4.cell? ⟨gp, 0, none⟩ = some (.string (st a)) := H4.out.p 0 a (by rw [HR.out.1]; rfl)
  go_wp2_with fail
  refine (KN.out _).mono ?_
  rintro _ w4 ⟨rfl, rfl⟩
  clear KN d2
  go_upto_region 35 with fail
  clear d0
  have k0 := H4.out.e.c0
  have k1 := H4.out.e.fz 0
  go_upto_region 36 with fail
  have H5 : Aside (T3 w (w4.setCell ⟨g1, 0, none⟩ (.int .i64 4)) g0 g1 g2 gp L 4 0 0 0 (.slice none 0 0) 0 okb) := H4.out.act (stp_one _ _ _ _) (H4.out.e.setK 4)
  generalize w4.setCell ⟨g1, 0, none⟩ (.int .i64 4) = w5 at *
  clear H4 k0 k1
  have k0 := H5.out.e.c6
  have k1 := H5.out.e.fz 6
  go_upto_region 37 with fail
  have H6 : Aside (T3 w (w5.setCell ⟨g1, 6, none⟩ (.bool false)) g0 g1 g2 gp L 4 0 0 0 (.slice none 0 0) 0 false) := H5.out.act (stp_one _ _ _ _) (H5.out.e.setO false)
  generalize w5.setCell ⟨g1, 6, none⟩ (.bool false) = w6 at *
  clear H5 k0 k1
  have hpe : ((p : Int) == 2) = true := by rw [beq_iff_eq]; have := HR.out.2; rw [HRn.out] at this; simp at this; omega
  have hzb : z = b := by
    have h1 := HN.out.1
    have h2 := HN.out.2.2
    have h3 := HR.out.2
    rw [HR.out.1, HRn.out] at h1
    rw [HRn.out] at h3
    have h4 : q = 1 := by simp at h3; omega
    rw [h4] at h1
    simpa using h1.symm
  obtain rfl : nz = -1 := by rw [HN.out.2.1, hzb, HV.out]; rfl
  clear hzb
  go_upto_region 39 with fail
  have c0 := H6.out.r.c0
  have c1 := H6.out.r.c1
  have c2 := H6.out.r.c2
  have c3 := H6.out.r.c3
  have c4 := H6.out.r.c4
  have c5 := H6.out.r.c5
  have c6 := H6.out.r.c6
  have e0 := H6.out.z.c0
  have e1 := H6.out.z.c1
  have e2 := H6.out.z.c2
  have e3 := H6.out.z.c3
  have e4 := H6.out.z.c4
  have e5 := H6.out.z.c5
  have e6 := H6.out.z.c6
  have z0 := H6.out.r.fz 0
  have z1 := H6.out.r.fz 1
  have z2 := H6.out.r.fz 2
  have z3 := H6.out.r.fz 3
  have z4 := H6.out.r.fz 4
  have z5 := H6.out.r.fz 5
  have z6 := H6.out.r.fz 6
  go_wp2
  refine bodyPost_ret (res_eff2 rfl _ rfl (H6.out.r.set7 0 0 0 0 (.slice none 0 0) 0 false)) rfl ?_
  refine ⟨(H6.out.stp.fresh (stp7 _ _ _ _ _ _ _ _ _) (by have := H6.out.lo; simp; omega)).none, ?_⟩
  rw [HRF.out]
  rfl

set_option maxHeartbeats 2000000 in
set_option maxRecDepth 100000 in
theorem rd_sigx (s : List UInt8) (hs : s.length ≤ 2000) (w : World) (h1 : s ≠ [101, 110, 100]) (h2 : s ≠ [104, 105, 115, 116, 111, 114, 121]) (a b : List UInt8) (R : List (List UInt8)) (hL : spl 32 s = a :: b :: R) (ha : a = [115, 105, 103, 110, 97, 108]) (hR : R ≠ []) : Calls Tryz.prog 24 #[.string (st s)] w (EffTo (rf s) w) := by
  have HRF : Hid (rf s = none) := Lib.hid (by
    unfold rf
    rw [if_neg h1, if_neg h2, hL]
    rcases R with _ | ⟨c, _ | ⟨d, _ | ⟨e, _ | ⟨f, r⟩⟩⟩⟩
    · exact absurd rfl hR
    all_goals simp [rfL, ha])
  have q1 : ((st s).toList == [101, 110, 100]) = false := by rw [st_toList]; exact beq_eq_false_iff_ne.2 h1
  have q2 : ((st s).toList == [104, 105, 115, 116, 111, 114, 121]) = false := by rw [st_toList]; exact beq_eq_false_iff_ne.2 h2
  have qagot : ((st a).toList == [103, 111, 116]) = false := by rw [st_toList, ha]; rfl
  have qawas : ((st a).toList == [119, 97, 115]) = false := by rw [st_toList, ha]; rfl
  have qawrote : ((st a).toList == [119, 114, 111, 116, 101]) = false := by rw [st_toList, ha]; rfl
  have qaread : ((st a).toList == [114, 101, 97, 100]) = false := by rw [st_toList, ha]; rfl
  have qasignal : ((st a).toList == [115, 105, 103, 110, 97, 108]) = true := by rw [st_toList, ha]; rfl
  obtain ⟨okb, qb1⟩ : ∃ o, ((st b).toList == [111, 107]) = o := ⟨_, rfl⟩
  have HXhR := Lib.hid hR
  clear hR
  have HLL := Lib.hid hL
  clear hL h1 h2 ha
  have KC := Lib.hid (fun W => rcut_run s 32 (by omega) W)
  have cv : ((32 : UInt8).toNat : Int) = 32 := rfl
  rw [cv] at KC
  clear cv
  go_enter Tryz.func24, Tryz.ntmps24
  have H0 : Aside (EAt (w.alloc (.cells #[.int .i64 0, .int .u32 0, .int .u8 0, .int .u8 0, .slice none 0 0, .int .i64 0, .bool false] 43)) w.heap.size 0 0 0 0 (.slice none 0 0) 0 false ∧ Stp [] w [] (w.alloc (.cells #[.int .i64 0, .int .u32 0, .int .u8 0, .int .u8 0, .slice none 0 0, .int .i64 0, .bool false] 43)) ∧ (w.alloc (.cells #[.int .i64 0, .int .u32 0, .int .u8 0, .int .u8 0, .slice none 0 0, .int .i64 0, .bool false] 43)).heap.size = w.heap.size + 1) := ⟨heap_alloc_new w _, Stp.alloc [] w _, by simp⟩
  obtain ⟨g0, hg0⟩ : ∃ g0, g0 = w.heap.size := ⟨_, rfl⟩
  rw [← hg0] at H0
  go_upto_region 1 with fail
  rw [← hg0]
  have HG := Lib.hid hg0
  generalize w.alloc (.cells #[.int .i64 0, .int .u32 0, .int .u8 0, .int .u8 0, .slice none 0 0, .int .i64 0, .bool false] 43) = w0 at *
  clear hg0
  go_wp2_with fail
  refine (KC.out _).mono ?_
  rintro _ w1 ⟨v, rfl, ho, s1⟩
  obtain ⟨a, cap, rfl, hno, hpc, hcm, hcell⟩ := ho.form
  rcases a with _ | ad
  · exact absurd (hno rfl).2 (spl_ne 32 s)
  obtain ⟨gp, rfl, hb1, hb2, hpcs⟩ := hcell ad rfl
  obtain ⟨L, hL⟩ : ∃ L, L = spl 32 s := ⟨_, rfl⟩
  obtain ⟨p, hp⟩ : ∃ p, p = L.length := ⟨_, rfl⟩
  rw [← hL] at hpc hpcs ⊢
  rw [← hp] at hpc ⊢
  have HL := Lib.hid (And.intro hL hp)
  have H1 : Aside (EAt w1 g0 0 0 0 0 (.slice none 0 0) 0 false ∧ Stp [] w [] w1 ∧ (∀ j x, L[j]? = some x → w1.cell? ⟨gp, j, none⟩ = some (.string (st x))) ∧ g0 < gp ∧ gp < w1.heap.size) := ⟨H0.out.1.other s1 (by simp), H0.out.2.1.trans s1, hpcs, by have := H0.out.2.2; omega, hb2⟩
  clear H0 s1 ho hno hpcs hcell hb1 hb2 hL hp KC
  go_upto_region 3 with fail
  have H2 : Aside (EAt (w1.alloc (.cells #[.int .i64 0, .int .u32 0, .int .u8 0, .int .u8 0, .slice none 0 0, .int .i64 0, .bool false] 43)) g0 0 0 0 0 (.slice none 0 0) 0 false ∧ EAt (w1.alloc (.cells #[.int .i64 0, .int .u32 0, .int .u8 0, .int .u8 0, .slice none 0 0, .int .i64 0, .bool false] 43)) w1.heap.size 0 0 0 0 (.slice none 0 0) 0 false ∧ Stp [] w [] (w1.alloc (.cells #[.int .i64 0, .int .u32 0, .int .u8 0, .int .u8 0, .slice none 0 0, .int .i64 0, .bool false] 43)) ∧ (∀ j x, L[j]? = some x → (w1.alloc (.cells #[.int .i64 0, .int .u32 0, .int .u8 0, .int .u8 0, .slice none 0 0, .int .i64 0, .bool false] 43)).cell? ⟨gp, j, none⟩ = some (.string (st x))) ∧ (g0 < gp ∧ gp < w1.heap.size ∧ w1.heap.size < (w1.alloc (.cells #[.int .i64 0, .int .u32 0, .int .u8 0, .int .u8 0, .slice none 0 0, .int .i64 0, .bool false] 43)).heap.size)) :=
    ⟨H1.out.1.other (Stp.alloc [] _ _) (by simp), heap_alloc_new w1 _, H1.out.2.1.trans (Stp.alloc [] _ _), fun j x hx => ((Stp.alloc [] w1 (.cells #[.int .i64 0, .int .u32 0, .int .u8 0, .int .u8 0, .slice none 0 0, .int .i64 0, .bool false] 43)).cell (a := ⟨gp, j, none⟩) H1.out.2.2.2.2 (by simp)).trans (H1.out.2.2.1 j x hx), H1.out.2.2.2.1, H1.out.2.2.2.2, by simp⟩
  generalize w1.alloc (.cells #[.int .i64 0, .int .u32 0, .int .u8 0, .int .u8 0, .slice none 0 0, .int .i64 0, .bool false] 43) = w2 at *
  generalize w1.heap.size = g1 at *
  have c0 := H2.out.2.1.c0
  have c1 := H2.out.2.1.c1
  have c2 := H2.out.2.1.c2
  have c3 := H2.out.2.1.c3
  have c4 := H2.out.2.1.c4
  have c5 := H2.out.2.1.c5
  have c6 := H2.out.2.1.c6
  clear H1
  go_upto_region 4 with fail
  have H3 : Aside (T3 w (w2.alloc (.cells #[.int .i64 0, .int .u32 0, .int .u8 0, .int .u8 0, .slice none 0 0, .int .i64 0, .bool false] 43)) g0 g1 w2.heap.size gp L 0 0 0 0 (.slice none 0 0) 0 false) :=
    ⟨H2.out.1.other (Stp.alloc [] _ _) (by simp), H2.out.2.1.other (Stp.alloc [] _ _) (by simp), heap_alloc_new w2 _, H2.out.2.2.1.trans (Stp.alloc [] _ _), fun j x hx => ((Stp.alloc [] w2 (.cells #[.int .i64 0, .int .u32 0, .int .u8 0, .int .u8 0, .slice none 0 0, .int .i64 0, .bool false] 43)).cell (a := ⟨gp, j, none⟩) (Nat.lt_trans H2.out.2.2.2.2.2.1 H2.out.2.2.2.2.2.2) (by simp)).trans (H2.out.2.2.2.1 j x hx), by rw [HG.out]; exact Nat.le_refl _, H2.out.2.2.2.2.1, H2.out.2.2.2.2.2.1, H2.out.2.2.2.2.2.2, by have := H2.out.2.2.2.2; simp; omega⟩
  generalize w2.alloc (.cells #[.int .i64 0, .int .u32 0, .int .u8 0, .int .u8 0, .slice none 0 0, .int .i64 0, .bool false] 43) = w3 at *
  generalize w2.heap.size = g2 at *
  clear H2 c0 c1 c2 c3 c4 c5 c6
  have hLL : L = a :: b :: R := HL.out.1.trans HLL.out
  have d0 : w3.cell? ⟨gp, 0, none⟩ = some (.string (st a)) := H3.out.p 0 a (by rw [hLL]; rfl)
  have d1 : w3.cell? ⟨gp, 1, none⟩ = some (.string (st b)) := H3.out.p 1 b (by rw [hLL]; rfl)
  have hpR : p = R.length + 2 := by rw [HL.out.2, hLL]; rfl
  have hp2 : ¬ (p : Int) < 2 := by omega
  have hp0 : (0 : Int) < (p : Int) := by omega
  have hp1 : (1 : Int) < (p : Int) := by omega
  have HR := Lib.hid (And.intro hLL hpR)
  clear hLL hpR
  obtain ⟨q, hq⟩ : ∃ q, p = q + 1 := ⟨p - 1, by have := HR.out.2; omega⟩
  obtain ⟨z, hz⟩ : ∃ z, L[q]? = some z := ⟨L[q]'(by have := HL.out.2; omega), List.getElem?_eq_getElem _⟩
  have hzl : z.length ≤ 2000 := by have h1 := spl_mem_len 32 s z (by rw [← HL.out.1]; exact List.mem_of_getElem? hz); omega
  have KN := Lib.hid (fun W => rnum18_run z (by omega) W)
  obtain ⟨nz, hnz⟩ : ∃ nz, nz = rz (rnum 10 18 z) := ⟨_, rfl⟩
  rw [← hnz] at KN
  have HN := Lib.hid (And.intro hz (And.intro hnz hq))
  have hsub : IntKind.i64.wrap ((p : Int) - 1) = (q : Int) := by rw [IntKind.wrap_i64]; have := hcm; simp [maxLen] at this; omega
  have hq0 : (0 : Int) ≤ (q : Int) := by omega
  have hqp : (q : Int) < (p : Int) := by omega
  clear hz hnz hq hzl
  have k0 := H3.out.e.c6
  have k1 := H3.out.e.fz 6
  go_upto_region 13 with fail
  have H4 : Aside (T3 w (w3.setCell ⟨g1, 6, none⟩ (.bool okb)) g0 g1 g2 gp L 0 0 0 0 (.slice none 0 0) 0 okb) := H3.out.act (stp_one _ _ _ _) (H3.out.e.setO okb)
  generalize w3.setCell ⟨g1, 6, none⟩ (.bool okb) = w4 at *
  clear H3 k0 k1 d0 d1
  have d2 : w4.cell? ⟨gp, q, none⟩ = some (.string (st z)) := H4.out.p q z HN.out.1
  have d0 : w4.cell? ⟨gp, 0, none⟩ = some (.string (st a)) := H4.out.p 0 a (by rw [HR.out.1]; rfl)
  go_wp2_with fail
  refine (KN.out _).mono ?_
  rintro _ w4 ⟨rfl, rfl⟩
  clear KN d2
  go_upto_region 35 with fail
  clear d0
  have k0 := H4.out.e.c0
  have k1 := H4.out.e.fz 0
  go_upto_region 36 with fail
  have H5 : Aside (T3 w (w4.setCell ⟨g1, 0, none⟩ (.int .i64 4)) g0 g1 g2 gp L 4 0 0 0 (.slice none 0 0) 0 okb) := H4.out.act (stp_one _ _ _ _) (H4.out.e.setK 4)
  generalize w4.setCell ⟨g1, 0, none⟩ (.int .i64 4) = w5 at *
  clear H4 k0 k1
  have k0 := H5.out.e.c6
  have k1 := H5.out.e.fz 6
  go_upto_region 37 with fail
  have H6 : Aside (T3 w (w5.setCell ⟨g1, 6, none⟩ (.bool false)) g0 g1 g2 gp L 4 0 0 0 (.slice none 0 0) 0 false) := H5.out.act (stp_one _ _ _ _) (H5.out.e.setO false)
  generalize w5.setCell ⟨g1, 6, none⟩ (.bool false) = w6 at *
  clear H5 k0 k1
  have hpe : ((p : Int) == 2) = false := by
    rw [beq_eq_false_iff_ne]
    have h1 := HR.out.2
    have h2 := List.length_pos_iff.2 HXhR.out
    omega
  go_upto_region 39 with fail
  have c0 := H6.out.r.c0
  have c1 := H6.out.r.c1
  have c2 := H6.out.r.c2
  have c3 := H6.out.r.c3
  have c4 := H6.out.r.c4
  have c5 := H6.out.r.c5
  have c6 := H6.out.r.c6
  have e0 := H6.out.z.c0
  have e1 := H6.out.z.c1
  have e2 := H6.out.z.c2
  have e3 := H6.out.z.c3
  have e4 := H6.out.z.c4
  have e5 := H6.out.z.c5
  have e6 := H6.out.z.c6
  have z0 := H6.out.r.fz 0
  have z1 := H6.out.r.fz 1
  have z2 := H6.out.r.fz 2
  have z3 := H6.out.r.fz 3
  have z4 := H6.out.r.fz 4
  have z5 := H6.out.r.fz 5
  have z6 := H6.out.r.fz 6
  go_wp2
  refine bodyPost_ret (res_eff2 rfl _ rfl (H6.out.r.set7 0 0 0 0 (.slice none 0 0) 0 false)) rfl ?_
  refine ⟨(H6.out.stp.fresh (stp7 _ _ _ _ _ _ _ _ _) (by have := H6.out.lo; simp; omega)).none, ?_⟩
  rw [HRF.out]
  rfl

set_option maxHeartbeats 2000000 in
set_option maxRecDepth 100000 in
theorem rd_deft (s : List UInt8) (hs : s.length ≤ 2000) (w : World) (h1 : s ≠ [101, 110, 100]) (h2 : s ≠ [104, 105, 115, 116, 111, 114, 121]) (a b : List UInt8) (R : List (List UInt8)) (hL : spl 32 s = a :: b :: R) (hagot : a ≠ [103, 111, 116]) (hawas : a ≠ [119, 97, 115]) (hawrote : a ≠ [119, 114, 111, 116, 101]) (haread : a ≠ [114, 101, 97, 100]) (hasignal : a ≠ [115, 105, 103, 110, 97, 108]) (hb : b = [111, 107])  : Calls Tryz.prog 24 #[.string (st s)] w (EffTo (rf s) w) := by
  have HRF : Hid (rf s = none) := Lib.hid (by
    unfold rf
    rw [if_neg h1, if_neg h2, hL]
    rcases R with _ | ⟨c, _ | ⟨d, _ | ⟨e, _ | ⟨f, r⟩⟩⟩⟩ <;> simp [rfL, hagot, hawas, hawrote, haread, hasignal])
  have q1 : ((st s).toList == [101, 110, 100]) = false := by rw [st_toList]; exact beq_eq_false_iff_ne.2 h1
  have q2 : ((st s).toList == [104, 105, 115, 116, 111, 114, 121]) = false := by rw [st_toList]; exact beq_eq_false_iff_ne.2 h2
  have qagot : ((st a).toList == [103, 111, 116]) = false := by rw [st_toList]; exact beq_eq_false_iff_ne.2 hagot
  have qawas : ((st a).toList == [119, 97, 115]) = false := by rw [st_toList]; exact beq_eq_false_iff_ne.2 hawas
  have qawrote : ((st a).toList == [119, 114, 111, 116, 101]) = false := by rw [st_toList]; exact beq_eq_false_iff_ne.2 hawrote
  have qaread : ((st a).toList == [114, 101, 97, 100]) = false := by rw [st_toList]; exact beq_eq_false_iff_ne.2 haread
  have qasignal : ((st a).toList == [115, 105, 103, 110, 97, 108]) = false := by rw [st_toList]; exact beq_eq_false_iff_ne.2 hasignal
  have qb1 : ((st b).toList == [111, 107]) = true := by rw [st_toList, hb]; rfl
  have HLL := Lib.hid hL
  clear hL h1 h2 hagot hawas hawrote haread hasignal hb
  have KC := Lib.hid (fun W => rcut_run s 32 (by omega) W)
  have cv : ((32 : UInt8).toNat : Int) = 32 := rfl
  rw [cv] at KC
  clear cv
  go_enter Tryz.func24, Tryz.ntmps24
  have H0 : Aside (EAt (w.alloc (.cells #[.int .i64 0, .int .u32 0, .int .u8 0, .int .u8 0, .slice none 0 0, .int .i64 0, .bool false] 43)) w.heap.size 0 0 0 0 (.slice none 0 0) 0 false ∧ Stp [] w [] (w.alloc (.cells #[.int .i64 0, .int .u32 0, .int .u8 0, .int .u8 0, .slice none 0 0, .int .i64 0, .bool false] 43)) ∧ (w.alloc (.cells #[.int .i64 0, .int .u32 0, .int .u8 0, .int .u8 0, .slice none 0 0, .int .i64 0, .bool false] 43)).heap.size = w.heap.size + 1) := ⟨heap_alloc_new w _, Stp.alloc [] w _, by simp⟩
  obtain ⟨g0, hg0⟩ : ∃ g0, g0 = w.heap.size := ⟨_, rfl⟩
  rw [← hg0] at H0
  go_upto_region 1 with fail
  rw [← hg0]
  have HG := Lib.hid hg0
  generalize w.alloc (.cells #[.int .i64 0, .int .u32 0, .int .u8 0, .int .u8 0, .slice none 0 0, .int .i64 0, .bool false] 43) = w0 at *
  clear hg0
  go_wp2_with fail
  refine (KC.out _).mono ?_
  rintro _ w1 ⟨v, rfl, ho, s1⟩
  obtain ⟨a, cap, rfl, hno, hpc, hcm, hcell⟩ := ho.form
  rcases a with _ | ad
  · exact absurd (hno rfl).2 (spl_ne 32 s)
  obtain ⟨gp, rfl, hb1, hb2, hpcs⟩ := hcell ad rfl
  obtain ⟨L, hL⟩ : ∃ L, L = spl 32 s := ⟨_, rfl⟩
  obtain ⟨p, hp⟩ : ∃ p, p = L.length := ⟨_, rfl⟩
  rw [← hL] at hpc hpcs ⊢
  rw [← hp] at hpc ⊢
  have HL := Lib.hid (And.intro hL hp)
  have H1 : Aside (EAt w1 g0 0 0 0 0 (.slice none 0 0) 0 false ∧ Stp [] w [] w1 ∧ (∀ j x, L[j]? = some x → w1.cell? ⟨gp, j, none⟩ = some (.string (st x))) ∧ g0 < gp ∧ gp < w1.heap.size) := ⟨H0.out.1.other s1 (by simp), H0.out.2.1.trans s1, hpcs, by have := H0.out.2.2; omega, hb2⟩
  clear H0 s1 ho hno hpcs hcell hb1 hb2 hL hp KC
  go_upto_region 3 with fail
  have H2 : Aside (EAt (w1.alloc (.cells #[.int .i64 0, .int .u32 0, .int .u8 0, .int .u8 0, .slice none 0 0, .int .i64 0, .bool false] 43)) g0 0 0 0 0 (.slice none 0 0) 0 false ∧ EAt (w1.alloc (.cells #[.int .i64 0, .int .u32 0, .int .u8 0, .int .u8 0, .slice none 0 0, .int .i64 0, .bool false] 43)) w1.heap.size 0 0 0 0 (.slice none 0 0) 0 false ∧ Stp [] w [] (w1.alloc (.cells #[.int .i64 0, .int .u32 0, .int .u8 0, .int .u8 0, .slice none 0 0, .int .i64 0, .bool false] 43)) ∧ (∀ j x, L[j]? = some x → (w1.alloc (.cells #[.int .i64 0, .int .u32 0, .int .u8 0, .int .u8 0, .slice none 0 0, .int .i64 0, .bool false] 43)).cell? ⟨gp, j, none⟩ = some (.string (st x))) ∧ (g0 < gp ∧ gp < w1.heap.size ∧ w1.heap.size < (w1.alloc (.cells #[.int .i64 0, .int .u32 0, .int .u8 0, .int .u8 0, .slice none 0 0, .int .i64 0, .bool false] 43)).heap.size)) :=
    ⟨H1.out.1.other (Stp.alloc [] _ _) (by simp), heap_alloc_new w1 _, H1.out.2.1.trans (Stp.alloc [] _ _), fun j x hx => ((Stp.alloc [] w1 (.cells #[.int .i64 0, .int .u32 0, .int .u8 0, .int .u8 0, .slice none 0 0, .int .i64 0, .bool false] 43)).cell (a := ⟨gp, j, none⟩) H1.out.2.2.2.2 (by simp)).trans (H1.out.2.2.1 j x hx), H1.out.2.2.2.1, H1.out.2.2.2.2, by simp⟩
  generalize w1.alloc (.cells #[.int .i64 0, .int .u32 0, .int .u8 0, .int .u8 0, .slice none 0 0, .int .i64 0, .bool false] 43) = w2 at *
  generalize w1.heap.size = g1 at *
  have c0 := H2.out.2.1.c0
  have c1 := H2.out.2.1.c1
  have c2 := H2.out.2.1.c2
  have c3 := H2.out.2.1.c3
  have c4 := H2.out.2.1.c4
  have c5 := H2.out.2.1.c5
  have c6 := H2.out.2.1.c6
  clear H1
  go_upto_region 4 with fail
  have H3 : Aside (T3 w (w2.alloc (.cells #[.int .i64 0, .int .u32 0, .int .u8 0, .int .u8 0, .slice none 0 0, .int .i64 0, .bool false] 43)) g0 g1 w2.heap.size gp L 0 0 0 0 (.slice none 0 0) 0 false) :=
    ⟨H2.out.1.other (Stp.alloc [] _ _) (by simp), H2.out.2.1.other (Stp.alloc [] _ _) (by simp), heap_alloc_new w2 _, H2.out.2.2.1.trans (Stp.alloc [] _ _), fun j x hx => ((Stp.alloc [] w2 (.cells #[.int .i64 0, .int .u32 0, .int .u8 0, .int .u8 0, .slice none 0 0, .int .i64 0, .bool false] 43)).cell (a := ⟨gp, j, none⟩) (Nat.lt_trans H2.out.2.2.2.2.2.1 H2.out.2.2.2.2.2.2) (by simp)).trans (H2.out.2.2.2.1 j x hx), by rw [HG.out]; exact Nat.le_refl _, H2.out.2.2.2.2.1, H2.out.2.2.2.2.2.1, H2.out.2.2.2.2.2.2, by have := H2.out.2.2.2.2; simp; omega⟩
  generalize w2.alloc (.cells #[.int .i64 0, .int .u32 0, .int .u8 0, .int .u8 0, .slice none 0 0, .int .i64 0, .bool false] 43) = w3 at *
  generalize w2.heap.size = g2 at *
  clear H2 c0 c1 c2 c3 c4 c5 c6
  have hLL : L = a :: b :: R := HL.out.1.trans HLL.out
  have d0 : w3.cell? ⟨gp, 0, none⟩ = some (.string (st a)) := H3.out.p 0 a (by rw [hLL]; rfl)
  have d1 : w3.cell? ⟨gp, 1, none⟩ = some (.string (st b)) := H3.out.p 1 b (by rw [hLL]; rfl)
  have hpR : p = R.length + 2 := by rw [HL.out.2, hLL]; rfl
  have hp2 : ¬ (p : Int) < 2 := by omega
  have hp0 : (0 : Int) < (p : Int) := by omega
  have hp1 : (1 : Int) < (p : Int) := by omega
  have HR := Lib.hid (And.intro hLL hpR)
  clear hLL hpR
  obtain ⟨q, hq⟩ : ∃ q, p = q + 1 := ⟨p - 1, by have := HR.out.2; omega⟩
  obtain ⟨z, hz⟩ : ∃ z, L[q]? = some z := ⟨L[q]'(by have := HL.out.2; omega), List.getElem?_eq_getElem _⟩
  have hzl : z.length ≤ 2000 := by have h1 := spl_mem_len 32 s z (by rw [← HL.out.1]; exact List.mem_of_getElem? hz); omega
  have KN := Lib.hid (fun W => rnum18_run z (by omega) W)
  obtain ⟨nz, hnz⟩ : ∃ nz, nz = rz (rnum 10 18 z) := ⟨_, rfl⟩
  rw [← hnz] at KN
  have HN := Lib.hid (And.intro hz (And.intro hnz hq))
  have hsub : IntKind.i64.wrap ((p : Int) - 1) = (q : Int) := by rw [IntKind.wrap_i64]; have := hcm; simp [maxLen] at this; omega
  have hq0 : (0 : Int) ≤ (q : Int) := by omega
  have hqp : (q : Int) < (p : Int) := by omega
  clear hz hnz hq hzl
  have k0 := H3.out.e.c6
  have k1 := H3.out.e.fz 6
  go_upto_region 13 with fail
  have H4 : Aside (T3 w (w3.setCell ⟨g1, 6, none⟩ (.bool true)) g0 g1 g2 gp L 0 0 0 0 (.slice none 0 0) 0 true) := H3.out.act (stp_one _ _ _ _) (H3.out.e.setO true)
  generalize w3.setCell ⟨g1, 6, none⟩ (.bool true) = w4 at *
  clear H3 k0 k1 d0 d1
  have d2 : w4.cell? ⟨gp, q, none⟩ = some (.string (st z)) := H4.out.p q z HN.out.1
  have d0 : w4.cell? ⟨gp, 0, none⟩ = some (.string (st a)) := H4.out.p 0 a (by rw [HR.out.1]; rfl)
  go_wp2_with fail
  refine (KN.out _).mono ?_
  rintro _ w4 ⟨rfl, rfl⟩
  clear KN d2
  go_upto_region 39 with fail
  have c0 := H4.out.r.c0
  have c1 := H4.out.r.c1
  have c2 := H4.out.r.c2
  have c3 := H4.out.r.c3
  have c4 := H4.out.r.c4
  have c5 := H4.out.r.c5
  have c6 := H4.out.r.c6
  have e0 := H4.out.z.c0
  have e1 := H4.out.z.c1
  have e2 := H4.out.z.c2
  have e3 := H4.out.z.c3
  have e4 := H4.out.z.c4
  have e5 := H4.out.z.c5
  have e6 := H4.out.z.c6
  have z0 := H4.out.r.fz 0
  have z1 := H4.out.r.fz 1
  have z2 := H4.out.r.fz 2
  have z3 := H4.out.r.fz 3
  have z4 := H4.out.r.fz 4
  have z5 := H4.out.r.fz 5
  have z6 := H4.out.r.fz 6
  go_wp2
  refine bodyPost_ret (res_eff2 rfl _ rfl (H4.out.r.set7 0 0 0 0 (.slice none 0 0) 0 false)) rfl ?_
  refine ⟨(H4.out.stp.fresh (stp7 _ _ _ _ _ _ _ _ _) (by have := H4.out.lo; simp; omega)).none, ?_⟩
  rw [HRF.out]
  rfl

set_option maxHeartbeats 2000000 in
set_option maxRecDepth 100000 in
theorem rd_deff (s : List UInt8) (hs : s.length ≤ 2000) (w : World) (h1 : s ≠ [101, 110, 100]) (h2 : s ≠ [104, 105, 115, 116, 111, 114, 121]) (a b : List UInt8) (R : List (List UInt8)) (hL : spl 32 s = a :: b :: R) (hagot : a ≠ [103, 111, 116]) (hawas : a ≠ [119, 97, 115]) (hawrote : a ≠ [119, 114, 111, 116, 101]) (haread : a ≠ [114, 101, 97, 100]) (hasignal : a ≠ [115, 105, 103, 110, 97, 108]) (hb : b = [102, 97, 105, 108])  : Calls Tryz.prog 24 #[.string (st s)] w (EffTo (rf s) w) := by
  have HRF : Hid (rf s = none) := Lib.hid (by
    unfold rf
    rw [if_neg h1, if_neg h2, hL]
    rcases R with _ | ⟨c, _ | ⟨d, _ | ⟨e, _ | ⟨f, r⟩⟩⟩⟩ <;> simp [rfL, hagot, hawas, hawrote, haread, hasignal])
  have q1 : ((st s).toList == [101, 110, 100]) = false := by rw [st_toList]; exact beq_eq_false_iff_ne.2 h1
  have q2 : ((st s).toList == [104, 105, 115, 116, 111, 114, 121]) = false := by rw [st_toList]; exact beq_eq_false_iff_ne.2 h2
  have qagot : ((st a).toList == [103, 111, 116]) = false := by rw [st_toList]; exact beq_eq_false_iff_ne.2 hagot
  have qawas : ((st a).toList == [119, 97, 115]) = false := by rw [st_toList]; exact beq_eq_false_iff_ne.2 hawas
  have qawrote : ((st a).toList == [119, 114, 111, 116, 101]) = false := by rw [st_toList]; exact beq_eq_false_iff_ne.2 hawrote
  have qaread : ((st a).toList == [114, 101, 97, 100]) = false := by rw [st_toList]; exact beq_eq_false_iff_ne.2 haread
  have qasignal : ((st a).toList == [115, 105, 103, 110, 97, 108]) = false := by rw [st_toList]; exact beq_eq_false_iff_ne.2 hasignal
  have qb1 : ((st b).toList == [111, 107]) = false := by rw [st_toList, hb]; rfl
  have qb2 : ((st b).toList == [102, 97, 105, 108]) = true := by rw [st_toList, hb]; rfl
  have HLL := Lib.hid hL
  clear hL h1 h2 hagot hawas hawrote haread hasignal hb
  have KC := Lib.hid (fun W => rcut_run s 32 (by omega) W)
  have cv : ((32 : UInt8).toNat : Int) = 32 := rfl
  rw [cv] at KC
  clear cv
  go_enter Tryz.func24, Tryz.ntmps24
  have H0 : Aside (EAt (w.alloc (.cells #[.int .i64 0, .int .u32 0, .int .u8 0, .int .u8 0, .slice none 0 0, .int .i64 0, .bool false] 43)) w.heap.size 0 0 0 0 (.slice none 0 0) 0 false ∧ Stp [] w [] (w.alloc (.cells #[.int .i64 0, .int .u32 0, .int .u8 0, .int .u8 0, .slice none 0 0, .int .i64 0, .bool false] 43)) ∧ (w.alloc (.cells #[.int .i64 0, .int .u32 0, .int .u8 0, .int .u8 0, .slice none 0 0, .int .i64 0, .bool false] 43)).heap.size = w.heap.size + 1) := ⟨heap_alloc_new w _, Stp.alloc [] w _, by simp⟩
  obtain ⟨g0, hg0⟩ : ∃ g0, g0 = w.heap.size := ⟨_, rfl⟩
  rw [← hg0] at H0
  go_upto_region 1 with fail
  rw [← hg0]
  have HG := Lib.hid hg0
  generalize w.alloc (.cells #[.int .i64 0, .int .u32 0, .int .u8 0, .int .u8 0, .slice none 0 0, .int .i64 0, .bool false] 43) = w0 at *
  clear hg0
  go_wp2_with fail
  refine (KC.out _).mono ?_
  rintro _ w1 ⟨v, rfl, ho, s1⟩
  obtain ⟨a, cap, rfl, hno, hpc, hcm, hcell⟩ := ho.form
  rcases a with _ | ad
  · exact absurd (hno rfl).2 (spl_ne 32 s)
  obtain ⟨gp, rfl, hb1, hb2, hpcs⟩ := hcell ad rfl
  obtain ⟨L, hL⟩ : ∃ L, L = spl 32 s := ⟨_, rfl⟩
  obtain ⟨p, hp⟩ : ∃ p, p = L.length := ⟨_, rfl⟩
  rw [← hL] at hpc hpcs ⊢
  rw [← hp] at hpc ⊢
  have HL := Lib.hid (And.intro hL hp)
  have H1 : Aside (EAt w1 g0 0 0 0 0 (.slice none 0 0) 0 false ∧ Stp [] w [] w1 ∧ (∀ j x, L[j]? = some x → w1.cell? ⟨gp, j, none⟩ = some (.string (st x))) ∧ g0 < gp ∧ gp < w1.heap.size) := ⟨H0.out.1.other s1 (by simp), H0.out.2.1.trans s1, hpcs, by have := H0.out.2.2; omega, hb2⟩
  clear H0 s1 ho hno hpcs hcell hb1 hb2 hL hp KC
  go_upto_region 3 with fail
  have H2 : Aside (EAt (w1.alloc (.cells #[.int .i64 0, .int .u32 0, .int .u8 0, .int .u8 0, .slice none 0 0, .int .i64 0, .bool false] 43)) g0 0 0 0 0 (.slice none 0 0) 0 false ∧ EAt (w1.alloc (.cells #[.int .i64 0, .int .u32 0, .int .u8 0, .int .u8 0, .slice none 0 0, .int .i64 0, .bool false] 43)) w1.heap.size 0 0 0 0 (.slice none 0 0) 0 false ∧ Stp [] w [] (w1.alloc (.cells #[.int .i64 0, .int .u32 0, .int .u8 0, .int .u8 0, .slice none 0 0, .int .i64 0, .bool false] 43)) ∧ (∀ j x, L[j]? = some x → (w1.alloc (.cells #[.int .i64 0, .int .u32 0, .int .u8 0, .int .u8 0, .slice none 0 0, .int .i64 0, .bool false] 43)).cell? ⟨gp, j, none⟩ = some (.string (st x))) ∧ (g0 < gp ∧ gp < w1.heap.size ∧ w1.heap.size < (w1.alloc (.cells #[.int .i64 0, .int .u32 0, .int .u8 0, .int .u8 0, .slice none 0 0, .int .i64 0, .bool false] 43)).heap.size)) :=
    ⟨H1.out.1.other (Stp.alloc [] _ _) (by simp), heap_alloc_new w1 _, H1.out.2.1.trans (Stp.alloc [] _ _), fun j x hx => ((Stp.alloc [] w1 (.cells #[.int .i64 0, .int .u32 0, .int .u8 0, .int .u8 0, .slice none 0 0, .int .i64 0, .bool false] 43)).cell (a := ⟨gp, j, none⟩) H1.out.2.2.2.2 (by simp)).trans (H1.out.2.2.1 j x hx), H1.out.2.2.2.1, H1.out.2.2.2.2, by simp⟩
  generalize w1.alloc (.cells #[.int .i64 0, .int .u32 0, .int .u8 0, .int .u8 0, .slice none 0 0, .int .i64 0, .bool false] 43) = w2 at *
  generalize w1.heap.size = g1 at *
  have c0 := H2.out.2.1.c0
  have c1 := H2.out.2.1.c1
  have c2 := H2.out.2.1.c2
  have c3 := H2.out.2.1.c3
  have c4 := H2.out.2.1.c4
  have c5 := H2.out.2.1.c5
  have c6 := H2.out.2.1.c6
  clear H1
  go_upto_region 4 with fail
  have H3 : Aside (T3 w (w2.alloc (.cells #[.int .i64 0, .int .u32 0, .int .u8 0, .int .u8 0, .slice none 0 0, .int .i64 0, .bool false] 43)) g0 g1 w2.heap.size gp L 0 0 0 0 (.slice none 0 0) 0 false) :=
    ⟨H2.out.1.other (Stp.alloc [] _ _) (by simp), H2.out.2.1.other (Stp.alloc [] _ _) (by simp), heap_alloc_new w2 _, H2.out.2.2.1.trans (Stp.alloc [] _ _), fun j x hx => ((Stp.alloc [] w2 (.cells #[.int .i64 0, .int .u32 0, .int .u8 0, .int .u8 0, .slice none 0 0, .int .i64 0, .bool false] 43)).cell (a := ⟨gp, j, none⟩) (Nat.lt_trans H2.out.2.2.2.2.2.1 H2.out.2.2.2.2.2.2) (by simp)).trans (H2.out.2.2.2.1 j x hx), by rw [HG.out]; exact Nat.le_refl _, H2.out.2.2.2.2.1, H2.out.2.2.2.2.2.1, H2.out.2.2.2.2.2.2, by have := H2.out.2.2.2.2; simp; omega⟩
  generalize w2.alloc (.cells #[.int .i64 0, .int .u32 0, .int .u8 0, .int .u8 0, .slice none 0 0, .int .i64 0, .bool false] 43) = w3 at *
  generalize w2.heap.size = g2 at *
  clear H2 c0 c1 c2 c3 c4 c5 c6
  have hLL : L = a :: b :: R := HL.out.1.trans HLL.out
  have d0 : w3.cell? ⟨gp, 0, none⟩ = some (.string (st a)) := H3.out.p 0 a (by rw [hLL]; rfl)
  have d1 : w3.cell? ⟨gp, 1, none⟩ = some (.string (st b)) := H3.out.p 1 b (by rw [hLL]; rfl)
  have hpR : p = R.length + 2 := by rw [HL.out.2, hLL]; rfl
  have hp2 : ¬ (p : Int) < 2 := by omega
  have hp0 : (0 : Int) < (p : Int) := by omega
  have hp1 : (1 : Int) < (p : Int) := by omega
  have HR := Lib.hid (And.intro hLL hpR)
  clear hLL hpR
  obtain ⟨q, hq⟩ : ∃ q, p = q + 1 := ⟨p - 1, by have := HR.out.2; omega⟩
  obtain ⟨z, hz⟩ : ∃ z, L[q]? = some z := ⟨L[q]'(by have := HL.out.2; omega), List.getElem?_eq_getElem _⟩
  have hzl : z.length ≤ 2000 := by have h1 := spl_mem_len 32 s z (by rw [← HL.out.1]; exact List.mem_of_getElem? hz); omega
  have KN := Lib.hid (fun W => rnum18_run z (by omega) W)
  obtain ⟨nz, hnz⟩ : ∃ nz, nz = rz (rnum 10 18 z) := ⟨_, rfl⟩
  rw [← hnz] at KN
  have HN := Lib.hid (And.intro hz (And.intro hnz hq))
  have hsub : IntKind.i64.wrap ((p : Int) - 1) = (q : Int) := by rw [IntKind.wrap_i64]; have := hcm; simp [maxLen] at this; omega
  have hq0 : (0 : Int) ≤ (q : Int) := by omega
  have hqp : (q : Int) < (p : Int) := by omega
  clear hz hnz hq hzl
  have k0 := H3.out.e.c6
  have k1 := H3.out.e.fz 6
  go_upto_region 13 with fail
  have H4 : Aside (T3 w (w3.setCell ⟨g1, 6, none⟩ (.bool false)) g0 g1 g2 gp L 0 0 0 0 (.slice none 0 0) 0 false) := H3.out.act (stp_one _ _ _ _) (H3.out.e.setO false)
  generalize w3.setCell ⟨g1, 6, none⟩ (.bool false) = w4 at *
  clear H3 k0 k1 d0 d1
  have d2 : w4.cell? ⟨gp, q, none⟩ = some (.string (st z)) := H4.out.p q z HN.out.1
  have d0 : w4.cell? ⟨gp, 0, none⟩ = some (.string (st a)) := H4.out.p 0 a (by rw [HR.out.1]; rfl)
  go_wp2_with fail
  refine (KN.out _).mono ?_
  rintro _ w4 ⟨rfl, rfl⟩
  clear KN d2
  go_upto_region 39 with fail
  have c0 := H4.out.r.c0
  have c1 := H4.out.r.c1
  have c2 := H4.out.r.c2
  have c3 := H4.out.r.c3
  have c4 := H4.out.r.c4
  have c5 := H4.out.r.c5
  have c6 := H4.out.r.c6
  have e0 := H4.out.z.c0
  have e1 := H4.out.z.c1
  have e2 := H4.out.z.c2
  have e3 := H4.out.z.c3
  have e4 := H4.out.z.c4
  have e5 := H4.out.z.c5
  have e6 := H4.out.z.c6
  have z0 := H4.out.r.fz 0
  have z1 := H4.out.r.fz 1
  have z2 := H4.out.r.fz 2
  have z3 := H4.out.r.fz 3
  have z4 := H4.out.r.fz 4
  have z5 := H4.out.r.fz 5
  have z6 := H4.out.r.fz 6
  go_wp2
  refine bodyPost_ret (res_eff2 rfl _ rfl (H4.out.r.set7 0 0 0 0 (.slice none 0 0) 0 false)) rfl ?_
  refine ⟨(H4.out.stp.fresh (stp7 _ _ _ _ _ _ _ _ _) (by have := H4.out.lo; simp; omega)).none, ?_⟩
  rw [HRF.out]
  rfl

set_option maxHeartbeats 2000000 in
set_option maxRecDepth 100000 in
theorem rd_read3t (s : List UInt8) (hs : s.length ≤ 2000) (w : World) (h1 : s ≠ [101, 110, 100]) (h2 : s ≠ [104, 105, 115, 116, 111, 114, 121]) (a b : List UInt8) (R : List (List UInt8)) (hL : spl 32 s = a :: b :: R) (ha : a = [114, 101, 97, 100]) (hb : b = [111, 107]) (c : List UInt8) (hR : R = [c]) (v : Nat) (hv : rnum 10 18 c = some v) : Calls Tryz.prog 24 #[.string (st s)] w (EffTo (rf s) w) := by
  have HRF : Hid (rf s = some (3, { E0 with n := v, ok := true })) := Lib.hid (by
    unfold rf
    rw [if_neg h1, if_neg h2, hL]
    subst hR
    simp [rfL, ha, hb, tks, tk, num_rnum, hv])
  have q1 : ((st s).toList == [101, 110, 100]) = false := by rw [st_toList]; exact beq_eq_false_iff_ne.2 h1
  have q2 : ((st s).toList == [104, 105, 115, 116, 111, 114, 121]) = false := by rw [st_toList]; exact beq_eq_false_iff_ne.2 h2
  have qagot : ((st a).toList == [103, 111, 116]) = false := by rw [st_toList, ha]; rfl
  have qawas : ((st a).toList == [119, 97, 115]) = false := by rw [st_toList, ha]; rfl
  have qawrote : ((st a).toList == [119, 114, 111, 116, 101]) = false := by rw [st_toList, ha]; rfl
  have qaread : ((st a).toList == [114, 101, 97, 100]) = true := by rw [st_toList, ha]; rfl
  have qasignal : ((st a).toList == [115, 105, 103, 110, 97, 108]) = false := by rw [st_toList, ha]; rfl
  have qb1 : ((st b).toList == [111, 107]) = true := by rw [st_toList, hb]; rfl
  have HXhR := Lib.hid hR
  have HXhv := Lib.hid hv
  clear hR hv
  have HLL := Lib.hid hL
  clear hL h1 h2 ha hb
  have KC := Lib.hid (fun W => rcut_run s 32 (by omega) W)
  have cv : ((32 : UInt8).toNat : Int) = 32 := rfl
  rw [cv] at KC
  clear cv
  go_enter Tryz.func24, Tryz.ntmps24
  have H0 : Aside (EAt (w.alloc (.cells #[.int .i64 0, .int .u32 0, .int .u8 0, .int .u8 0, .slice none 0 0, .int .i64 0, .bool false] 43)) w.heap.size 0 0 0 0 (.slice none 0 0) 0 false ∧ Stp [] w [] (w.alloc (.cells #[.int .i64 0, .int .u32 0, .int .u8 0, .int .u8 0, .slice none 0 0, .int .i64 0, .bool false] 43)) ∧ (w.alloc (.cells #[.int .i64 0, .int .u32 0, .int .u8 0, .int .u8 0, .slice none 0 0, .int .i64 0, .bool false] 43)).heap.size = w.heap.size + 1) := ⟨heap_alloc_new w _, Stp.alloc [] w _, by simp⟩
  obtain ⟨g0, hg0⟩ : ∃ g0, g0 = w.heap.size := ⟨_, rfl⟩
  rw [← hg0] at H0
  go_upto_region 1 with fail
  rw [← hg0]
  have HG := Lib.hid hg0
  generalize w.alloc (.cells #[.int .i64 0, .int .u32 0, .int .u8 0, .int .u8 0, .slice none 0 0, .int .i64 0, .bool false] 43) = w0 at *
  clear hg0
  go_wp2_with fail
  refine (KC.out _).mono ?_
  rintro _ w1 ⟨v, rfl, ho, s1⟩
  obtain ⟨a, cap, rfl, hno, hpc, hcm, hcell⟩ := ho.form
  rcases a with _ | ad
  · exact absurd (hno rfl).2 (spl_ne 32 s)
  obtain ⟨gp, rfl, hb1, hb2, hpcs⟩ := hcell ad rfl
  obtain ⟨L, hL⟩ : ∃ L, L = spl 32 s := ⟨_, rfl⟩
  obtain ⟨p, hp⟩ : ∃ p, p = L.length := ⟨_, rfl⟩
  rw [← hL] at hpc hpcs ⊢
  rw [← hp] at hpc ⊢
  have HL := Lib.hid (And.intro hL hp)
  have H1 : Aside (EAt w1 g0 0 0 0 0 (.slice none 0 0) 0 false ∧ Stp [] w [] w1 ∧ (∀ j x, L[j]? = some x → w1.cell? ⟨gp, j, none⟩ = some (.string (st x))) ∧ g0 < gp ∧ gp < w1.heap.size) := ⟨H0.out.1.other s1 (by simp), H0.out.2.1.trans s1, hpcs, by have := H0.out.2.2; omega, hb2⟩
  clear H0 s1 ho hno hpcs hcell hb1 hb2 hL hp KC
  go_upto_region 3 with fail
  have H2 : Aside (EAt (w1.alloc (.cells #[.int .i64 0, .int .u32 0, .int .u8 0, .int .u8 0, .slice none 0 0, .int .i64 0, .bool false] 43)) g0 0 0 0 0 (.slice none 0 0) 0 false ∧ EAt (w1.alloc (.cells #[.int .i64 0, .int .u32 0, .int .u8 0, .int .u8 0, .slice none 0 0, .int .i64 0, .bool false] 43)) w1.heap.size 0 0 0 0 (.slice none 0 0) 0 false ∧ Stp [] w [] (w1.alloc (.cells #[.int .i64 0, .int .u32 0, .int .u8 0, .int .u8 0, .slice none 0 0, .int .i64 0, .bool false] 43)) ∧ (∀ j x, L[j]? = some x → (w1.alloc (.cells #[.int .i64 0, .int .u32 0, .int .u8 0, .int .u8 0, .slice none 0 0, .int .i64 0, .bool false] 43)).cell? ⟨gp, j, none⟩ = some (.string (st x))) ∧ (g0 < gp ∧ gp < w1.heap.size ∧ w1.heap.size < (w1.alloc (.cells #[.int .i64 0, .int .u32 0, .int .u8 0, .int .u8 0, .slice none 0 0, .int .i64 0, .bool false] 43)).heap.size)) :=
    ⟨H1.out.1.other (Stp.alloc [] _ _) (by simp), heap_alloc_new w1 _, H1.out.2.1.trans (Stp.alloc [] _ _), fun j x hx => ((Stp.alloc [] w1 (.cells #[.int .i64 0, .int .u32 0, .int .u8 0, .int .u8 0, .slice none 0 0, .int .i64 0, .bool false] 43)).cell (a := ⟨gp, j, none⟩) H1.out.2.2.2.2 (by simp)).trans (H1.out.2.2.1 j x hx), H1.out.2.2.2.1, H1.out.2.2.2.2, by simp⟩
  generalize w1.alloc (.cells #[.int .i64 0, .int .u32 0, .int .u8 0, .int .u8 0, .slice none 0 0, .int .i64 0, .bool false] 43) = w2 at *
  generalize w1.heap.size = g1 at *
  have c0 := H2.out.2.1.c0
  have c1 := H2.out.2.1.c1
  have c2 := H2.out.2.1.c2
  have c3 := H2.out.2.1.c3
  have c4 := H2.out.2.1.c4
  have c5 := H2.out.2.1.c5
  have c6 := H2.out.2.1.c6
  clear H1
  go_upto_region 4 with fail
  have H3 : Aside (T3 w (w2.alloc (.cells #[.int .i64 0, .int .u32 0, .int .u8 0, .int .u8 0, .slice none 0 0, .int .i64 0, .bool false] 43)) g0 g1 w2.heap.size gp L 0 0 0 0 (.slice none 0 0) 0 false) :=
    ⟨H2.out.1.other (Stp.alloc [] _ _) (by simp), H2.out.2.1.other (Stp.alloc [] _ _) (by simp), heap_alloc_new w2 _, H2.out.2.2.1.trans (Stp.alloc [] _ _), fun j x hx => ((Stp.alloc [] w2 (.cells #[.int .i64 0, .int .u32 0, .int .u8 0, .int .u8 0, .slice none 0 0, .int .i64 0, .bool false] 43)).cell (a := ⟨gp, j, none⟩) (Nat.lt_trans H2.out.2.2.2.2.2.1 H2.out.2.2.2.2.2.2) (by simp)).trans (H2.out.2.2.2.1 j x hx), by rw [HG.out]; exact Nat.le_refl _, H2.out.2.2.2.2.1, H2.out.2.2.2.2.2.1, H2.out.2.2.2.2.2.2, by have := H2.out.2.2.2.2; simp; omega⟩
  generalize w2.alloc (.cells #[.int .i64 0, .int .u32 0, .int .u8 0, .int .u8 0, .slice none 0 0, .int .i64 0, .bool false] 43) = w3 at *
  generalize w2.heap.size = g2 at *
  clear H2 c0 c1 c2 c3 c4 c5 c6
  have hLL : L = a :: b :: R := HL.out.1.trans HLL.out
  have d0 : w3.cell? ⟨gp, 0, none⟩ = some (.string (st a)) := H3.out.p 0 a (by rw [hLL]; rfl)
  have d1 : w3.cell? ⟨gp, 1, none⟩ = some (.string (st b)) := H3.out.p 1 b (by rw [hLL]; rfl)
  have hpR : p = R.length + 2 := by rw [HL.out.2, hLL]; rfl
  have hp2 : ¬ (p : Int) < 2 := by omega
  have hp0 : (0 : Int) < (p : Int) := by omega
  have hp1 : (1 : Int) < (p : Int) := by omega
  have HR := Lib.hid (And.intro hLL hpR)
  clear hLL hpR
  obtain ⟨q, hq⟩ : ∃ q, p = q + 1 := ⟨p - 1, by have := HR.out.2; omega⟩
  obtain ⟨z, hz⟩ : ∃ z, L[q]? = some z := ⟨L[q]'(by have := HL.out.2; omega), List.getElem?_eq_getElem _⟩
  have hzl : z.length ≤ 2000 := by have h1 := spl_mem_len 32 s z (by rw [← HL.out.1]; exact List.mem_of_getElem? hz); omega
  have KN := Lib.hid (fun W => rnum18_run z (by omega) W)
  obtain ⟨nz, hnz⟩ : ∃ nz, nz = rz (rnum 10 18 z) := ⟨_, rfl⟩
  rw [← hnz] at KN
  have HN := Lib.hid (And.intro hz (And.intro hnz hq))
  have hsub : IntKind.i64.wrap ((p : Int) - 1) = (q : Int) := by rw [IntKind.wrap_i64]; have := hcm; simp [maxLen] at this; omega
  have hq0 : (0 : Int) ≤ (q : Int) := by omega
  have hqp : (q : Int) < (p : Int) := by omega
  clear hz hnz hq hzl
  have k0 := H3.out.e.c6
  have k1 := H3.out.e.fz 6
  go_upto_region 13 with fail
  have H4 : Aside (T3 w (w3.setCell ⟨g1, 6, none⟩ (.bool true)) g0 g1 g2 gp L 0 0 0 0 (.slice none 0 0) 0 true) := H3.out.act (stp_one _ _ _ _) (H3.out.e.setO true)
  generalize w3.setCell ⟨g1, 6, none⟩ (.bool true) = w4 at *
  clear H3 k0 k1 d0 d1
  have d2 : w4.cell? ⟨gp, q, none⟩ = some (.string (st z)) := H4.out.p q z HN.out.1
  have d0 : w4.cell? ⟨gp, 0, none⟩ = some (.string (st a)) := H4.out.p 0 a (by rw [HR.out.1]; rfl)
  go_wp2_with fail
  refine (KN.out _).mono ?_
  rintro _ w4 ⟨rfl, rfl⟩
  clear KN d2
  go_upto_region 32 with fail
  clear d0
  have k0 := H4.out.e.c0
  have k1 := H4.out.e.fz 0
  go_upto_region 33 with fail
  have H5 : Aside (T3 w (w4.setCell ⟨g1, 0, none⟩ (.int .i64 3)) g0 g1 g2 gp L 3 0 0 0 (.slice none 0 0) 0 true) := H4.out.act (stp_one _ _ _ _) (H4.out.e.setK 3)
  generalize w4.setCell ⟨g1, 0, none⟩ (.int .i64 3) = w5 at *
  clear H4 k0 k1
  have hpe : ((p : Int) == 3) = true := by rw [beq_iff_eq]; have := HR.out.2; rw [HXhR.out] at this; simp at this; omega
  have hzb : z = c := by
    have h1 := HN.out.1
    have h2 := HN.out.2.2
    have h3 := HR.out.2
    rw [HR.out.1, HXhR.out] at h1
    rw [HXhR.out] at h3
    have h4 : q = 2 := by simp at h3; omega
    rw [h4] at h1
    simpa using h1.symm
  obtain rfl : nz = (v : Int) := by rw [HN.out.2.1, hzb, HXhv.out]; rfl
  clear hzb
  have hn0 : ¬ (v : Int) < 0 := by omega
  have hn1 : decide ((v : Int) < 0) = false := decide_eq_false hn0
  go_upto_region 40 with fail
  have k0 := H5.out.e.c5
  have k1 := H5.out.e.fz 5
  go_upto_region 41 with fail
  have H6 : Aside (T3 w (w5.setCell ⟨g1, 5, none⟩ (.int .i64 (v : Int))) g0 g1 g2 gp L 3 0 0 0 (.slice none 0 0) (v : Int) true) := H5.out.act (stp_one _ _ _ _) (H5.out.e.setN (v : Int))
  generalize w5.setCell ⟨g1, 5, none⟩ (.int .i64 (v : Int)) = w6 at *
  clear H5 k0 k1
  have c0 := H6.out.r.c0
  have c1 := H6.out.r.c1
  have c2 := H6.out.r.c2
  have c3 := H6.out.r.c3
  have c4 := H6.out.r.c4
  have c5 := H6.out.r.c5
  have c6 := H6.out.r.c6
  have e0 := H6.out.e.c0
  have e1 := H6.out.e.c1
  have e2 := H6.out.e.c2
  have e3 := H6.out.e.c3
  have e4 := H6.out.e.c4
  have e5 := H6.out.e.c5
  have e6 := H6.out.e.c6
  have z0 := H6.out.r.fz 0
  have z1 := H6.out.r.fz 1
  have z2 := H6.out.r.fz 2
  have z3 := H6.out.r.fz 3
  have z4 := H6.out.r.fz 4
  have z5 := H6.out.r.fz 5
  have z6 := H6.out.r.fz 6
  go_wp2
  refine bodyPost_ret (res_eff2 rfl _ rfl (H6.out.r.set7 3 0 0 0 (.slice none 0 0) (v : Int) true)) rfl ?_
  refine ⟨(H6.out.stp.fresh (stp7 _ _ _ _ _ _ _ _ _) (by have := H6.out.lo; simp; omega)).none, ?_⟩
  rw [HRF.out]
  exact ⟨_, rfl, none, 0, rfl, Bts.nil _ _, Nat.le_refl _, fun _ => rfl, fun ad h => by cases h⟩

set_option maxHeartbeats 2000000 in
set_option maxRecDepth 100000 in
theorem rd_read3nt (s : List UInt8) (hs : s.length ≤ 2000) (w : World) (h1 : s ≠ [101, 110, 100]) (h2 : s ≠ [104, 105, 115, 116, 111, 114, 121]) (a b : List UInt8) (R : List (List UInt8)) (hL : spl 32 s = a :: b :: R) (ha : a = [114, 101, 97, 100]) (hb : b = [111, 107]) (c : List UInt8) (hR : R = [c]) (hv : rnum 10 18 c = none) : Calls Tryz.prog 24 #[.string (st s)] w (EffTo (rf s) w) := by
  have HRF : Hid (rf s = none) := Lib.hid (by
    unfold rf
    rw [if_neg h1, if_neg h2, hL]
    subst hR
    simp [rfL, ha, hb, tks, tk, num_rnum, hv])
  have q1 : ((st s).toList == [101, 110, 100]) = false := by rw [st_toList]; exact beq_eq_false_iff_ne.2 h1
  have q2 : ((st s).toList == [104, 105, 115, 116, 111, 114, 121]) = false := by rw [st_toList]; exact beq_eq_false_iff_ne.2 h2
  have qagot : ((st a).toList == [103, 111, 116]) = false := by rw [st_toList, ha]; rfl
  have qawas : ((st a).toList == [119, 97, 115]) = false := by rw [st_toList, ha]; rfl
  have qawrote : ((st a).toList == [119, 114, 111, 116, 101]) = false := by rw [st_toList, ha]; rfl
  have qaread : ((st a).toList == [114, 101, 97, 100]) = true := by rw [st_toList, ha]; rfl
  have qasignal : ((st a).toList == [115, 105, 103, 110, 97, 108]) = false := by rw [st_toList, ha]; rfl
  have qb1 : ((st b).toList == [111, 107]) = true := by rw [st_toList, hb]; rfl
  have HXhR := Lib.hid hR
  have HXhv := Lib.hid hv
  clear hR hv
  have HLL := Lib.hid hL
  clear hL h1 h2 ha hb
  have KC := Lib.hid (fun W => rcut_run s 32 (by omega) W)
  have cv : ((32 : UInt8).toNat : Int) = 32 := rfl
  rw [cv] at KC
  clear cv
  go_enter Tryz.func24, Tryz.ntmps24
  have H0 : Aside (EAt (w.alloc (.cells #[.int .i64 0, .int .u32 0, .int .u8 0, .int .u8 0, .slice none 0 0, .int .i64 0, .bool false] 43)) w.heap.size 0 0 0 0 (.slice none 0 0) 0 false ∧ Stp [] w [] (w.alloc (.cells #[.int .i64 0, .int .u32 0, .int .u8 0, .int .u8 0, .slice none 0 0, .int .i64 0, .bool false] 43)) ∧ (w.alloc (.cells #[.int .i64 0, .int .u32 0, .int .u8 0, .int .u8 0, .slice none 0 0, .int .i64 0, .bool false] 43)).heap.size = w.heap.size + 1) := ⟨heap_alloc_new w _, Stp.alloc [] w _, by simp⟩
  obtain ⟨g0, hg0⟩ : ∃ g0, g0 = w.heap.size := ⟨_, rfl⟩
  rw [← hg0] at H0
  go_upto_region 1 with fail
  rw [← hg0]
  have HG := Lib.hid hg0
  generalize w.alloc (.cells #[.int .i64 0, .int .u32 0, .int .u8 0, .int .u8 0, .slice none 0 0, .int .i64 0, .bool false] 43) = w0 at *
  clear hg0
  go_wp2_with fail
  refine (KC.out _).mono ?_
  rintro _ w1 ⟨v, rfl, ho, s1⟩
  obtain ⟨a, cap, rfl, hno, hpc, hcm, hcell⟩ := ho.form
  rcases a with _ | ad
  · exact absurd (hno rfl).2 (spl_ne 32 s)
  obtain ⟨gp, rfl, hb1, hb2, hpcs⟩ := hcell ad rfl
  obtain ⟨L, hL⟩ : ∃ L, L = spl 32 s := ⟨_, rfl⟩
  obtain ⟨p, hp⟩ : ∃ p, p = L.length := ⟨_, rfl⟩
  rw [← hL] at hpc hpcs ⊢
  rw [← hp] at hpc ⊢
  have HL := Lib.hid (And.intro hL hp)
  have H1 : Aside (EAt w1 g0 0 0 0 0 (.slice none 0 0) 0 false ∧ Stp [] w [] w1 ∧ (∀ j x, L[j]? = some x → w1.cell? ⟨gp, j, none⟩ = some (.string (st x))) ∧ g0 < gp ∧ gp < w1.heap.size) := ⟨H0.out.1.other s1 (by simp), H0.out.2.1.trans s1, hpcs, by have := H0.out.2.2; omega, hb2⟩
  clear H0 s1 ho hno hpcs hcell hb1 hb2 hL hp KC
  go_upto_region 3 with fail
  have H2 : Aside (EAt (w1.alloc (.cells #[.int .i64 0, .int .u32 0, .int .u8 0, .int .u8 0, .slice none 0 0, .int .i64 0, .bool false] 43)) g0 0 0 0 0 (.slice none 0 0) 0 false ∧ EAt (w1.alloc (.cells #[.int .i64 0, .int .u32 0, .int .u8 0, .int .u8 0, .slice none 0 0, .int .i64 0, .bool false] 43)) w1.heap.size 0 0 0 0 (.slice none 0 0) 0 false ∧ Stp [] w [] (w1.alloc (.cells #[.int .i64 0, .int .u32 0, .int .u8 0, .int .u8 0, .slice none 0 0, .int .i64 0, .bool false] 43)) ∧ (∀ j x, L[j]? = some x → (w1.alloc (.cells #[.int .i64 0, .int .u32 0, .int .u8 0, .int .u8 0, .slice none 0 0, .int .i64 0, .bool false] 43)).cell? ⟨gp, j, none⟩ = some (.string (st x))) ∧ (g0 < gp ∧ gp < w1.heap.size ∧ w1.heap.size < (w1.alloc (.cells #[.int .i64 0, .int .u32 0, .int .u8 0, .int .u8 0, .slice none 0 0, .int .i64 0, .bool false] 43)).heap.size)) :=
    ⟨H1.out.1.other (Stp.alloc [] _ _) (by simp), heap_alloc_new w1 _, H1.out.2.1.trans (Stp.alloc [] _ _), fun j x hx => ((Stp.alloc [] w1 (.cells #[.int .i64 0, .int .u32 0, .int .u8 0, .int .u8 0, .slice none 0 0, .int .i64 0, .bool false] 43)).cell (a := ⟨gp, j, none⟩) H1.out.2.2.2.2 (by simp)).trans (H1.out.2.2.1 j x hx), H1.out.2.2.2.1, H1.out.2.2.2.2, by simp⟩
  generalize w1.alloc (.cells #[.int .i64 0, .int .u32 0, .int .u8 0, .int .u8 0, .slice none 0 0, .int .i64 0, .bool false] 43) = w2 at *
  generalize w1.heap.size = g1 at *
  have c0 := H2.out.2.1.c0
  have c1 := H2.out.2.1.c1
  have c2 := H2.out.2.1.c2
  have c3 := H2.out.2.1.c3
  have c4 := H2.out.2.1.c4
  have c5 := H2.out.2.1.c5
  have c6 := H2.out.2.1.c6
  clear H1
  go_upto_region 4 with fail
  have H3 : Aside (T3 w (w2.alloc (.cells #[.int .i64 0, .int .u32 0, .int .u8 0, .int .u8 0, .slice none 0 0, .int .i64 0, .bool false] 43)) g0 g1 w2.heap.size gp L 0 0 0 0 (.slice none 0 0) 0 false) :=
    ⟨H2.out.1.other (Stp.alloc [] _ _) (by simp), H2.out.2.1.other (Stp.alloc [] _ _) (by simp), heap_alloc_new w2 _, H2.out.2.2.1.trans (Stp.alloc [] _ _), fun j x hx => ((Stp.alloc [] w2 (.cells #[.int .i64 0, .int .u32 0, .int .u8 0, .int .u8 0, .slice none 0 0, .int .i64 0, .bool false] 43)).cell (a := ⟨gp, j, none⟩) (Nat.lt_trans H2.out.2.2.2.2.2.1 H2.out.2.2.2.2.2.2) (by simp)).trans (H2.out.2.2.2.1 j x hx), by rw [HG.out]; exact Nat.le_refl _, H2.out.2.2.2.2.1, H2.out.2.2.2.2.2.1, H2.out.2.2.2.2.2.2, by have := H2.out.2.2.2.2; simp; omega⟩
  generalize w2.alloc (.cells #[.int .i64 0, .int .u32 0, .int .u8 0, .int .u8 0, .slice none 0 0, .int .i64 0, .bool false] 43) = w3 at *
  generalize w2.heap.size = g2 at *
  clear H2 c0 c1 c2 c3 c4 c5 c6
  have hLL : L = a :: b :: R := HL.out.1.trans HLL.out
  have d0 : w3.cell? ⟨gp, 0, none⟩ = some (.string (st a)) := H3.out.p 0 a (by rw [hLL]; rfl)
  have d1 : w3.cell? ⟨gp, 1, none⟩ = some (.string (st b)) := H3.out.p 1 b (by rw [hLL]; rfl)
  have hpR : p = R.length + 2 := by rw [HL.out.2, hLL]; rfl
  have hp2 : ¬ (p : Int) < 2 := by omega
  have hp0 : (0 : Int) < (p : Int) := by omega
  have hp1 : (1 : Int) < (p : Int) := by omega
  have HR := Lib.hid (And.intro hLL hpR)
  clear hLL hpR
  obtain ⟨q, hq⟩ : ∃ q, p = q + 1 := ⟨p - 1, by have := HR.out.2; omega⟩
  obtain ⟨z, hz⟩ : ∃ z, L[q]? = some z := ⟨L[q]'(by have := HL.out.2; omega), List.getElem?_eq_getElem _⟩
  have hzl : z.length ≤ 2000 := by have h1 := spl_mem_len 32 s z (by rw [← HL.out.1]; exact List.mem_of_getElem? hz); omega
  have KN := Lib.hid (fun W => rnum18_run z (by omega) W)
  obtain ⟨nz, hnz⟩ : ∃ nz, nz = rz (rnum 10 18 z) := ⟨_, rfl⟩
  rw [← hnz] at KN
  have HN := Lib.hid (And.intro hz (And.intro hnz hq))
  have hsub : IntKind.i64.wrap ((p : Int) - 1) = (q : Int) := by rw [IntKind.wrap_i64]; have := hcm; simp [maxLen] at this; omega
  have hq0 : (0 : Int) ≤ (q : Int) := by omega
  have hqp : (q : Int) < (p : Int) := by omega
  clear hz hnz hq hzl
  have k0 := H3.out.e.c6
  have k1 := H3.out.e.fz 6
  go_upto_region 13 with fail
  have H4 : Aside (T3 w (w3.setCell ⟨g1, 6, none⟩ (.bool true)) g0 g1 g2 gp L 0 0 0 0 (.slice none 0 0) 0 true) := H3.out.act (stp_one _ _ _ _) (H3.out.e.setO true)
  generalize w3.setCell ⟨g1, 6, none⟩ (.bool true) = w4 at *
  clear H3 k0 k1 d0 d1
  have d2 : w4.cell? ⟨gp, q, none⟩ = some (.string (st z)) := H4.out.p q z HN.out.1
  have d0 : w4.cell? ⟨gp, 0, none⟩ = some (.string (st a)) := H4.out.p 0 a (by rw [HR.out.1]; rfl)
  go_wp2_with fail
  refine (KN.out _).mono ?_
  rintro _ w4 ⟨rfl, rfl⟩
  clear KN d2
  go_upto_region 32 with fail
  clear d0
  have k0 := H4.out.e.c0
  have k1 := H4.out.e.fz 0
  go_upto_region 33 with fail
  have H5 : Aside (T3 w (w4.setCell ⟨g1, 0, none⟩ (.int .i64 3)) g0 g1 g2 gp L 3 0 0 0 (.slice none 0 0) 0 true) := H4.out.act (stp_one _ _ _ _) (H4.out.e.setK 3)
  generalize w4.setCell ⟨g1, 0, none⟩ (.int .i64 3) = w5 at *
  clear H4 k0 k1
  have hpe : ((p : Int) == 3) = true := by rw [beq_iff_eq]; have := HR.out.2; rw [HXhR.out] at this; simp at this; omega
  have hzb : z = c := by
    have h1 := HN.out.1
    have h2 := HN.out.2.2
    have h3 := HR.out.2
    rw [HR.out.1, HXhR.out] at h1
    rw [HXhR.out] at h3
    have h4 : q = 2 := by simp at h3; omega
    rw [h4] at h1
    simpa using h1.symm
  obtain rfl : nz = -1 := by rw [HN.out.2.1, hzb, HXhv.out]; rfl
  clear hzb
  go_upto_region 39 with fail
  have c0 := H5.out.r.c0
  have c1 := H5.out.r.c1
  have c2 := H5.out.r.c2
  have c3 := H5.out.r.c3
  have c4 := H5.out.r.c4
  have c5 := H5.out.r.c5
  have c6 := H5.out.r.c6
  have e0 := H5.out.z.c0
  have e1 := H5.out.z.c1
  have e2 := H5.out.z.c2
  have e3 := H5.out.z.c3
  have e4 := H5.out.z.c4
  have e5 := H5.out.z.c5
  have e6 := H5.out.z.c6
  have z0 := H5.out.r.fz 0
  have z1 := H5.out.r.fz 1
  have z2 := H5.out.r.fz 2
  have z3 := H5.out.r.fz 3
  have z4 := H5.out.r.fz 4
  have z5 := H5.out.r.fz 5
  have z6 := H5.out.r.fz 6
  go_wp2
  refine bodyPost_ret (res_eff2 rfl _ rfl (H5.out.r.set7 0 0 0 0 (.slice none 0 0) 0 false)) rfl ?_
  refine ⟨(H5.out.stp.fresh (stp7 _ _ _ _ _ _ _ _ _) (by have := H5.out.lo; simp; omega)).none, ?_⟩
  rw [HRF.out]
  rfl

set_option maxHeartbeats 2000000 in
set_option maxRecDepth 100000 in
theorem rd_readxt (s : List UInt8) (hs : s.length ≤ 2000) (w : World) (h1 : s ≠ [101, 110, 100]) (h2 : s ≠ [104, 105, 115, 116, 111, 114, 121]) (a b : List UInt8) (R : List (List UInt8)) (hL : spl 32 s = a :: b :: R) (ha : a = [114, 101, 97, 100]) (hb : b = [111, 107]) (hR : R.length ≠ 1) : Calls Tryz.prog 24 #[.string (st s)] w (EffTo (rf s) w) := by
  have HRF : Hid (rf s = none) := Lib.hid (by
    unfold rf
    rw [if_neg h1, if_neg h2, hL]
    rcases R with _ | ⟨c, _ | ⟨d, _ | ⟨e, _ | ⟨f, r⟩⟩⟩⟩
    · simp [rfL, ha]
    · simp at hR
    all_goals simp [rfL, ha])
  have q1 : ((st s).toList == [101, 110, 100]) = false := by rw [st_toList]; exact beq_eq_false_iff_ne.2 h1
  have q2 : ((st s).toList == [104, 105, 115, 116, 111, 114, 121]) = false := by rw [st_toList]; exact beq_eq_false_iff_ne.2 h2
  have qagot : ((st a).toList == [103, 111, 116]) = false := by rw [st_toList, ha]; rfl
  have qawas : ((st a).toList == [119, 97, 115]) = false := by rw [st_toList, ha]; rfl
  have qawrote : ((st a).toList == [119, 114, 111, 116, 101]) = false := by rw [st_toList, ha]; rfl
  have qaread : ((st a).toList == [114, 101, 97, 100]) = true := by rw [st_toList, ha]; rfl
  have qasignal : ((st a).toList == [115, 105, 103, 110, 97, 108]) = false := by rw [st_toList, ha]; rfl
  have qb1 : ((st b).toList == [111, 107]) = true := by rw [st_toList, hb]; rfl
  have HXhR := Lib.hid hR
  clear hR
  have HLL := Lib.hid hL
  clear hL h1 h2 ha hb
  have KC := Lib.hid (fun W => rcut_run s 32 (by omega) W)
  have cv : ((32 : UInt8).toNat : Int) = 32 := rfl
  rw [cv] at KC
  clear cv
  go_enter Tryz.func24, Tryz.ntmps24
  have H0 : Aside (EAt (w.alloc (.cells #[.int .i64 0, .int .u32 0, .int .u8 0, .int .u8 0, .slice none 0 0, .int .i64 0, .bool false] 43)) w.heap.size 0 0 0 0 (.slice none 0 0) 0 false ∧ Stp [] w [] (w.alloc (.cells #[.int .i64 0, .int .u32 0, .int .u8 0, .int .u8 0, .slice none 0 0, .int .i64 0, .bool false] 43)) ∧ (w.alloc (.cells #[.int .i64 0, .int .u32 0, .int .u8 0, .int .u8 0, .slice none 0 0, .int .i64 0, .bool false] 43)).heap.size = w.heap.size + 1) := ⟨heap_alloc_new w _, Stp.alloc [] w _, by simp⟩
  obtain ⟨g0, hg0⟩ : ∃ g0, g0 = w.heap.size := ⟨_, rfl⟩
  rw [← hg0] at H0
  go_upto_region 1 with fail
  rw [← hg0]
  have HG := Lib.hid hg0
  generalize w.alloc (.cells #[.int .i64 0, .int .u32 0, .int .u8 0, .int .u8 0, .slice none 0 0, .int .i64 0, .bool false] 43) = w0 at *
  clear hg0
  go_wp2_with fail
  refine (KC.out _).mono ?_
  rintro _ w1 ⟨v, rfl, ho, s1⟩
  obtain ⟨a, cap, rfl, hno, hpc, hcm, hcell⟩ := ho.form
  rcases a with _ | ad
  · exact absurd (hno rfl).2 (spl_ne 32 s)
  obtain ⟨gp, rfl, hb1, hb2, hpcs⟩ := hcell ad rfl
  obtain ⟨L, hL⟩ : ∃ L, L = spl 32 s := ⟨_, rfl⟩
  obtain ⟨p, hp⟩ : ∃ p, p = L.length := ⟨_, rfl⟩
  rw [← hL] at hpc hpcs ⊢
  rw [← hp] at hpc ⊢
  have HL := Lib.hid (And.intro hL hp)
  have H1 : Aside (EAt w1 g0 0 0 0 0 (.slice none 0 0) 0 false ∧ Stp [] w [] w1 ∧ (∀ j x, L[j]? = some x → w1.cell? ⟨gp, j, none⟩ = some (.string (st x))) ∧ g0 < gp ∧ gp < w1.heap.size) := ⟨H0.out.1.other s1 (by simp), H0.out.2.1.trans s1, hpcs, by have := H0.out.2.2; omega, hb2⟩
  clear H0 s1 ho hno hpcs hcell hb1 hb2 hL hp KC
  go_upto_region 3 with fail
  have H2 : Aside (EAt (w1.alloc (.cells #[.int .i64 0, .int .u32 0, .int .u8 0, .int .u8 0, .slice none 0 0, .int .i64 0, .bool false] 43)) g0 0 0 0 0 (.slice none 0 0) 0 false ∧ EAt (w1.alloc (.cells #[.int .i64 0, .int .u32 0, .int .u8 0, .int .u8 0, .slice none 0 0, .int .i64 0, .bool false] 43)) w1.heap.size 0 0 0 0 (.slice none 0 0) 0 false ∧ Stp [] w [] (w1.alloc (.cells #[.int .i64 0, .int .u32 0, .int .u8 0, .int .u8 0, .slice none 0 0, .int .i64 0, .bool false] 43)) ∧ (∀ j x, L[j]? = some x → (w1.alloc (.cells #[.int .i64 0, .int .u32 0, .int .u8 0, .int .u8 0, .slice none 0 0, .int .i64 0, .bool false] 43)).cell? ⟨gp, j, none⟩ = some (.string (st x))) ∧ (g0 < gp ∧ gp < w1.heap.size ∧ w1.heap.size < (w1.alloc (.cells #[.int .i64 0, .int .u32 0, .int .u8 0, .int .u8 0, .slice none 0 0, .int .i64 0, .bool false] 43)).heap.size)) :=
    ⟨H1.out.1.other (Stp.alloc [] _ _) (by simp), heap_alloc_new w1 _, H1.out.2.1.trans (Stp.alloc [] _ _), fun j x hx => ((Stp.alloc [] w1 (.cells #[.int .i64 0, .int .u32 0, .int .u8 0, .int .u8 0, .slice none 0 0, .int .i64 0, .bool false] 43)).cell (a := ⟨gp, j, none⟩) H1.out.2.2.2.2 (by simp)).trans (H1.out.2.2.1 j x hx), H1.out.2.2.2.1, H1.out.2.2.2.2, by simp⟩
  generalize w1.alloc (.cells #[.int .i64 0, .int .u32 0, .int .u8 0, .int .u8 0, .slice none 0 0, .int .i64 0, .bool false] 43) = w2 at *
  generalize w1.heap.size = g1 at *
  have c0 := H2.out.2.1.c0
  have c1 := H2.out.2.1.c1
  have c2 := H2.out.2.1.c2
  have c3 := H2.out.2.1.c3
  have c4 := H2.out.2.1.c4
  have c5 := H2.out.2.1.c5
  have c6 := H2.out.2.1.c6
  clear H1
  go_upto_region 4 with fail
  have H3 : Aside (T3 w (w2.alloc (.cells #[.int .i64 0, .int .u32 0, .int .u8 0, .int .u8 0, .slice none 0 0, .int .i64 0, .bool false] 43)) g0 g1 w2.heap.size gp L 0 0 0 0 (.slice none 0 0) 0 false) :=
    ⟨H2.out.1.other (Stp.alloc [] _ _) (by simp), H2.out.2.1.other (Stp.alloc [] _ _) (by simp), heap_alloc_new w2 _, H2.out.2.2.1.trans (Stp.alloc [] _ _), fun j x hx => ((Stp.alloc [] w2 (.cells #[.int .i64 0, .int .u32 0, .int .u8 0, .int .u8 0, .slice none 0 0, .int .i64 0, .bool false] 43)).cell (a := ⟨gp, j, none⟩) (Nat.lt_trans H2.out.2.2.2.2.2.1 H2.out.2.2.2.2.2.2) (by simp)).trans (H2.out.2.2.2.1 j x hx), by rw [HG.out]; exact Nat.le_refl _, H2.out.2.2.2.2.1, H2.out.2.2.2.2.2.1, H2.out.2.2.2.2.2.2, by have := H2.out.2.2.2.2; simp; omega⟩
  generalize w2.alloc (.cells #[.int .i64 0, .int .u32 0, .int .u8 0, .int .u8 0, .slice none 0 0, .int .i64 0, .bool false] 43) = w3 at *
  generalize w2.heap.size = g2 at *
  clear H2 c0 c1 c2 c3 c4 c5 c6
  have hLL : L = a :: b :: R := HL.out.1.trans HLL.out
  have d0 : w3.cell? ⟨gp, 0, none⟩ = some (.string (st a)) := H3.out.p 0 a (by rw [hLL]; rfl)
  have d1 : w3.cell? ⟨gp, 1, none⟩ = some (.string (st b)) := H3.out.p 1 b (by rw [hLL]; rfl)
  have hpR : p = R.length + 2 := by rw [HL.out.2, hLL]; rfl
  have hp2 : ¬ (p : Int) < 2 := by omega
  have hp0 : (0 : Int) < (p : Int) := by omega
  have hp1 : (1 : Int) < (p : Int) := by omega
  have HR := Lib.hid (And.intro hLL hpR)
  clear hLL hpR
  obtain ⟨q, hq⟩ : ∃ q, p = q + 1 := ⟨p - 1, by have := HR.out.2; omega⟩
  obtain ⟨z, hz⟩ : ∃ z, L[q]? = some z := ⟨L[q]'(by have := HL.out.2; omega), List.getElem?_eq_getElem _⟩
  have hzl : z.length ≤ 2000 := by have h1 := spl_mem_len 32 s z (by rw [← HL.out.1]; exact List.mem_of_getElem? hz); omega
  have KN := Lib.hid (fun W => rnum18_run z (by omega) W)
  obtain ⟨nz, hnz⟩ : ∃ nz, nz = rz (rnum 10 18 z) := ⟨_, rfl⟩
  rw [← hnz] at KN
  have HN := Lib.hid (And.intro hz (And.intro hnz hq))
  have hsub : IntKind.i64.wrap ((p : Int) - 1) = (q : Int) := by rw [IntKind.wrap_i64]; have := hcm; simp [maxLen] at this; omega
  have hq0 : (0 : Int) ≤ (q : Int) := by omega
  have hqp : (q : Int) < (p : Int) := by omega
  clear hz hnz hq hzl
  have k0 := H3.out.e.c6
  have k1 := H3.out.e.fz 6
  go_upto_region 13 with fail
  have H4 : Aside (T3 w (w3.setCell ⟨g1, 6, none⟩ (.bool true)) g0 g1 g2 gp L 0 0 0 0 (.slice none 0 0) 0 true) := H3.out.act (stp_one _ _ _ _) (H3.out.e.setO true)
  generalize w3.setCell ⟨g1, 6, none⟩ (.bool true) = w4 at *
  clear H3 k0 k1 d0 d1
  have d2 : w4.cell? ⟨gp, q, none⟩ = some (.string (st z)) := H4.out.p q z HN.out.1
  have d0 : w4.cell? ⟨gp, 0, none⟩ = some (.string (st a)) := H4.out.p 0 a (by rw [HR.out.1]; rfl)
  go_wp2_with fail
  refine (KN.out _).mono ?_
  rintro _ w4 ⟨rfl, rfl⟩
  clear KN d2
  go_upto_region 32 with fail
  clear d0
  have k0 := H4.out.e.c0
  have k1 := H4.out.e.fz 0
  go_upto_region 33 with fail
  have H5 : Aside (T3 w (w4.setCell ⟨g1, 0, none⟩ (.int .i64 3)) g0 g1 g2 gp L 3 0 0 0 (.slice none 0 0) 0 true) := H4.out.act (stp_one _ _ _ _) (H4.out.e.setK 3)
  generalize w4.setCell ⟨g1, 0, none⟩ (.int .i64 3) = w5 at *
  clear H4 k0 k1
  have hpe : ((p : Int) == 3) = false := by
    rw [beq_eq_false_iff_ne]
    have h1 := HR.out.2
    have h2 := HXhR.out
    omega
  go_upto_region 39 with fail
  have c0 := H5.out.r.c0
  have c1 := H5.out.r.c1
  have c2 := H5.out.r.c2
  have c3 := H5.out.r.c3
  have c4 := H5.out.r.c4
  have c5 := H5.out.r.c5
  have c6 := H5.out.r.c6
  have e0 := H5.out.z.c0
  have e1 := H5.out.z.c1
  have e2 := H5.out.z.c2
  have e3 := H5.out.z.c3
  have e4 := H5.out.z.c4
  have e5 := H5.out.z.c5
  have e6 := H5.out.z.c6
  have z0 := H5.out.r.fz 0
  have z1 := H5.out.r.fz 1
  have z2 := H5.out.r.fz 2
  have z3 := H5.out.r.fz 3
  have z4 := H5.out.r.fz 4
  have z5 := H5.out.r.fz 5
  have z6 := H5.out.r.fz 6
  go_wp2
  refine bodyPost_ret (res_eff2 rfl _ rfl (H5.out.r.set7 0 0 0 0 (.slice none 0 0) 0 false)) rfl ?_
  refine ⟨(H5.out.stp.fresh (stp7 _ _ _ _ _ _ _ _ _) (by have := H5.out.lo; simp; omega)).none, ?_⟩
  rw [HRF.out]
  rfl

set_option maxHeartbeats 2000000 in
set_option maxRecDepth 100000 in
theorem rd_read3f (s : List UInt8) (hs : s.length ≤ 2000) (w : World) (h1 : s ≠ [101, 110, 100]) (h2 : s ≠ [104, 105, 115, 116, 111, 114, 121]) (a b : List UInt8) (R : List (List UInt8)) (hL : spl 32 s = a :: b :: R) (ha : a = [114, 101, 97, 100]) (hb : b = [102, 97, 105, 108]) (c : List UInt8) (hR : R = [c]) (v : Nat) (hv : rnum 10 18 c = some v) : Calls Tryz.prog 24 #[.string (st s)] w (EffTo (rf s) w) := by
  have HRF : Hid (rf s = some (3, { E0 with n := v, ok := false })) := Lib.hid (by
    unfold rf
    rw [if_neg h1, if_neg h2, hL]
    subst hR
    simp [rfL, ha, hb, tks, tk, num_rnum, hv])
  have q1 : ((st s).toList == [101, 110, 100]) = false := by rw [st_toList]; exact beq_eq_false_iff_ne.2 h1
  have q2 : ((st s).toList == [104, 105, 115, 116, 111, 114, 121]) = false := by rw [st_toList]; exact beq_eq_false_iff_ne.2 h2
  have qagot : ((st a).toList == [103, 111, 116]) = false := by rw [st_toList, ha]; rfl
  have qawas : ((st a).toList == [119, 97, 115]) = false := by rw [st_toList, ha]; rfl
  have qawrote : ((st a).toList == [119, 114, 111, 116, 101]) = false := by rw [st_toList, ha]; rfl
  have qaread : ((st a).toList == [114, 101, 97, 100]) = true := by rw [st_toList, ha]; rfl
  have qasignal : ((st a).toList == [115, 105, 103, 110, 97, 108]) = false := by rw [st_toList, ha]; rfl
  have qb1 : ((st b).toList == [111, 107]) = false := by rw [st_toList, hb]; rfl
  have qb2 : ((st b).toList == [102, 97, 105, 108]) = true := by rw [st_toList, hb]; rfl
  have HXhR := Lib.hid hR
  have HXhv := Lib.hid hv
  clear hR hv
  have HLL := Lib.hid hL
  clear hL h1 h2 ha hb
  have KC := Lib.hid (fun W => rcut_run s 32 (by omega) W)
  have cv : ((32 : UInt8).toNat : Int) = 32 := rfl
  rw [cv] at KC
  clear cv
  go_enter Tryz.func24, Tryz.ntmps24
  have H0 : Aside (EAt (w.alloc (.cells #[.int .i64 0, .int .u32 0, .int .u8 0, .int .u8 0, .slice none 0 0, .int .i64 0, .bool false] 43)) w.heap.size 0 0 0 0 (.slice none 0 0) 0 false ∧ Stp [] w [] (w.alloc (.cells #[.int .i64 0, .int .u32 0, .int .u8 0, .int .u8 0, .slice none 0 0, .int .i64 0, .bool false] 43)) ∧ (w.alloc (.cells #[.int .i64 0, .int .u32 0, .int .u8 0, .int .u8 0, .slice none 0 0, .int .i64 0, .bool false] 43)).heap.size = w.heap.size + 1) := ⟨heap_alloc_new w _, Stp.alloc [] w _, by simp⟩
  obtain ⟨g0, hg0⟩ : ∃ g0, g0 = w.heap.size := ⟨_, rfl⟩
  rw [← hg0] at H0
  go_upto_region 1 with fail
  rw [← hg0]
  have HG := Lib.hid hg0
  generalize w.alloc (.cells #[.int .i64 0, .int .u32 0, .int .u8 0, .int .u8 0, .slice none 0 0, .int .i64 0, .bool false] 43) = w0 at *
  clear hg0
  go_wp2_with fail
  refine (KC.out _).mono ?_
  rintro _ w1 ⟨v, rfl, ho, s1⟩
  obtain ⟨a, cap, rfl, hno, hpc, hcm, hcell⟩ := ho.form
  rcases a with _ | ad
  · exact absurd (hno rfl).2 (spl_ne 32 s)
  obtain ⟨gp, rfl, hb1, hb2, hpcs⟩ := hcell ad rfl
  obtain ⟨L, hL⟩ : ∃ L, L = spl 32 s := ⟨_, rfl⟩
  obtain ⟨p, hp⟩ : ∃ p, p = L.length := ⟨_, rfl⟩
  rw [← hL] at hpc hpcs ⊢
  rw [← hp] at hpc ⊢
  have HL := Lib.hid (And.intro hL hp)
  have H1 : Aside (EAt w1 g0 0 0 0 0 (.slice none 0 0) 0 false ∧ Stp [] w [] w1 ∧ (∀ j x, L[j]? = some x → w1.cell? ⟨gp, j, none⟩ = some (.string (st x))) ∧ g0 < gp ∧ gp < w1.heap.size) := ⟨H0.out.1.other s1 (by simp), H0.out.2.1.trans s1, hpcs, by have := H0.out.2.2; omega, hb2⟩
  clear H0 s1 ho hno hpcs hcell hb1 hb2 hL hp KC
  go_upto_region 3 with fail
  have H2 : Aside (EAt (w1.alloc (.cells #[.int .i64 0, .int .u32 0, .int .u8 0, .int .u8 0, .slice none 0 0, .int .i64 0, .bool false] 43)) g0 0 0 0 0 (.slice none 0 0) 0 false ∧ EAt (w1.alloc (.cells #[.int .i64 0, .int .u32 0, .int .u8 0, .int .u8 0, .slice none 0 0, .int .i64 0, .bool false] 43)) w1.heap.size 0 0 0 0 (.slice none 0 0) 0 false ∧ Stp [] w [] (w1.alloc (.cells #[.int .i64 0, .int .u32 0, .int .u8 0, .int .u8 0, .slice none 0 0, .int .i64 0, .bool false] 43)) ∧ (∀ j x, L[j]? = some x → (w1.alloc (.cells #[.int .i64 0, .int .u32 0, .int .u8 0, .int .u8 0, .slice none 0 0, .int .i64 0, .bool false] 43)).cell? ⟨gp, j, none⟩ = some (.string (st x))) ∧ (g0 < gp ∧ gp < w1.heap.size ∧ w1.heap.size < (w1.alloc (.cells #[.int .i64 0, .int .u32 0, .int .u8 0, .int .u8 0, .slice none 0 0, .int .i64 0, .bool false] 43)).heap.size)) :=
    ⟨H1.out.1.other (Stp.alloc [] _ _) (by simp), heap_alloc_new w1 _, H1.out.2.1.trans (Stp.alloc [] _ _), fun j x hx => ((Stp.alloc [] w1 (.cells #[.int .i64 0, .int .u32 0, .int .u8 0, .int .u8 0, .slice none 0 0, .int .i64 0, .bool false] 43)).cell (a := ⟨gp, j, none⟩) H1.out.2.2.2.2 (by simp)).trans (H1.out.2.2.1 j x hx), H1.out.2.2.2.1, H1.out.2.2.2.2, by simp⟩
  generalize w1.alloc (.cells #[.int .i64 0, .int .u32 0, .int .u8 0, .int .u8 0, .slice none 0 0, .int .i64 0, .bool false] 43) = w2 at *
  generalize w1.heap.size = g1 at *
  have c0 := H2.out.2.1.c0
  have c1 := H2.out.2.1.c1
  have c2 := H2.out.2.1.c2
  have c3 := H2.out.2.1.c3
  have c4 := H2.out.2.1.c4
  have c5 := H2.out.2.1.c5
  have c6 := H2.out.2.1.c6
  clear H1
  go_upto_region 4 with fail
  have H3 : Aside (T3 w (w2.alloc (.cells #[.int .i64 0, .int .u32 0, .int .u8 0, .int .u8 0, .slice none 0 0, .int .i64 0, .bool false] 43)) g0 g1 w2.heap.size gp L 0 0 0 0 (.slice none 0 0) 0 false) :=
    ⟨H2.out.1.other (Stp.alloc [] _ _) (by simp), H2.out.2.1.other (Stp.alloc [] _ _) (by simp), heap_alloc_new w2 _, H2.out.2.2.1.trans (Stp.alloc [] _ _), fun j x hx => ((Stp.alloc [] w2 (.cells #[.int .i64 0, .int .u32 0, .int .u8 0, .int .u8 0, .slice none 0 0, .int .i64 0, .bool false] 43)).cell (a := ⟨gp, j, none⟩) (Nat.lt_trans H2.out.2.2.2.2.2.1 H2.out.2.2.2.2.2.2) (by simp)).trans (H2.out.2.2.2.1 j x hx), by rw [HG.out]; exact Nat.le_refl _, H2.out.2.2.2.2.1, H2.out.2.2.2.2.2.1, H2.out.2.2.2.2.2.2, by have := H2.out.2.2.2.2; simp; omega⟩
  generalize w2.alloc (.cells #[.int .i64 0, .int .u32 0, .int .u8 0, .int .u8 0, .slice none 0 0, .int .i64 0, .bool false] 43) = w3 at *
  generalize w2.heap.size = g2 at *
  clear H2 c0 c1 c2 c3 c4 c5 c6
  have hLL : L = a :: b :: R := HL.out.1.trans HLL.out
  have d0 : w3.cell? ⟨gp, 0, none⟩ = some (.string (st a)) := H3.out.p 0 a (by rw [hLL]; rfl)
  have d1 : w3.cell? ⟨gp, 1, none⟩ = some (.string (st b)) := H3.out.p 1 b (by rw [hLL]; rfl)
  have hpR : p = R.length + 2 := by rw [HL.out.2, hLL]; rfl
  have hp2 : ¬ (p : Int) < 2 := by omega
  have hp0 : (0 : Int) < (p : Int) := by omega
  have hp1 : (1 : Int) < (p : Int) := by omega
  have HR := Lib.hid (And.intro hLL hpR)
  clear hLL hpR
  obtain ⟨q, hq⟩ : ∃ q, p = q + 1 := ⟨p - 1, by have := HR.out.2; omega⟩
  obtain ⟨z, hz⟩ : ∃ z, L[q]? = some z := ⟨L[q]'(by have := HL.out.2; omega), List.getElem?_eq_getElem _⟩
  have hzl : z.length ≤ 2000 := by have h1 := spl_mem_len 32 s z (by rw [← HL.out.1]; exact List.mem_of_getElem? hz); omega
  have KN := Lib.hid (fun W => rnum18_run z (by omega) W)
  obtain ⟨nz, hnz⟩ : ∃ nz, nz = rz (rnum 10 18 z) := ⟨_, rfl⟩
  rw [← hnz] at KN
  have HN := Lib.hid (And.intro hz (And.intro hnz hq))
  have hsub : IntKind.i64.wrap ((p : Int) - 1) = (q : Int) := by rw [IntKind.wrap_i64]; have := hcm; simp [maxLen] at this; omega
  have hq0 : (0 : Int) ≤ (q : Int) := by omega
  have hqp : (q : Int) < (p : Int) := by omega
  clear hz hnz hq hzl
  have k0 := H3.out.e.c6
  have k1 := H3.out.e.fz 6
  go_upto_region 13 with fail
  have H4 : Aside (T3 w (w3.setCell ⟨g1, 6, none⟩ (.bool false)) g0 g1 g2 gp L 0 0 0 0 (.slice none 0 0) 0 false) := H3.out.act (stp_one _ _ _ _) (H3.out.e.setO false)
  generalize w3.setCell ⟨g1, 6, none⟩ (.bool false) = w4 at *
  clear H3 k0 k1 d0 d1
  have d2 : w4.cell? ⟨gp, q, none⟩ = some (.string (st z)) := H4.out.p q z HN.out.1
  have d0 : w4.cell? ⟨gp, 0, none⟩ = some (.string (st a)) := H4.out.p 0 a (by rw [HR.out.1]; rfl)
  go_wp2_with fail
  refine (KN.out _).mono ?_
  rintro _ w4 ⟨rfl, rfl⟩
  clear KN d2
  go_upto_region 32 with fail
  clear d0
  have k0 := H4.out.e.c0
  have k1 := H4.out.e.fz 0
  go_upto_region 33 with fail
  have H5 : Aside (T3 w (w4.setCell ⟨g1, 0, none⟩ (.int .i64 3)) g0 g1 g2 gp L 3 0 0 0 (.slice none 0 0) 0 false) := H4.out.act (stp_one _ _ _ _) (H4.out.e.setK 3)
  generalize w4.setCell ⟨g1, 0, none⟩ (.int .i64 3) = w5 at *
  clear H4 k0 k1
  have hpe : ((p : Int) == 3) = true := by rw [beq_iff_eq]; have := HR.out.2; rw [HXhR.out] at this; simp at this; omega
  have hzb : z = c := by
    have h1 := HN.out.1
    have h2 := HN.out.2.2
    have h3 := HR.out.2
    rw [HR.out.1, HXhR.out] at h1
    rw [HXhR.out] at h3
    have h4 : q = 2 := by simp at h3; omega
    rw [h4] at h1
    simpa using h1.symm
  obtain rfl : nz = (v : Int) := by rw [HN.out.2.1, hzb, HXhv.out]; rfl
  clear hzb
  have hn0 : ¬ (v : Int) < 0 := by omega
  have hn1 : decide ((v : Int) < 0) = false := decide_eq_false hn0
  go_upto_region 40 with fail
  have k0 := H5.out.e.c5
  have k1 := H5.out.e.fz 5
  go_upto_region 41 with fail
  have H6 : Aside (T3 w (w5.setCell ⟨g1, 5, none⟩ (.int .i64 (v : Int))) g0 g1 g2 gp L 3 0 0 0 (.slice none 0 0) (v : Int) false) := H5.out.act (stp_one _ _ _ _) (H5.out.e.setN (v : Int))
  generalize w5.setCell ⟨g1, 5, none⟩ (.int .i64 (v : Int)) = w6 at *
  clear H5 k0 k1
  have c0 := H6.out.r.c0
  have c1 := H6.out.r.c1
  have c2 := H6.out.r.c2
  have c3 := H6.out.r.c3
  have c4 := H6.out.r.c4
  have c5 := H6.out.r.c5
  have c6 := H6.out.r.c6
  have e0 := H6.out.e.c0
  have e1 := H6.out.e.c1
  have e2 := H6.out.e.c2
  have e3 := H6.out.e.c3
  have e4 := H6.out.e.c4
  have e5 := H6.out.e.c5
  have e6 := H6.out.e.c6
  have z0 := H6.out.r.fz 0
  have z1 := H6.out.r.fz 1
  have z2 := H6.out.r.fz 2
  have z3 := H6.out.r.fz 3
  have z4 := H6.out.r.fz 4
  have z5 := H6.out.r.fz 5
  have z6 := H6.out.r.fz 6
  go_wp2
  refine bodyPost_ret (res_eff2 rfl _ rfl (H6.out.r.set7 3 0 0 0 (.slice none 0 0) (v : Int) false)) rfl ?_
  refine ⟨(H6.out.stp.fresh (stp7 _ _ _ _ _ _ _ _ _) (by have := H6.out.lo; simp; omega)).none, ?_⟩
  rw [HRF.out]
  exact ⟨_, rfl, none, 0, rfl, Bts.nil _ _, Nat.le_refl _, fun _ => rfl, fun ad h => by cases h⟩

set_option maxHeartbeats 2000000 in
set_option maxRecDepth 100000 in
theorem rd_read3nf (s : List UInt8) (hs : s.length ≤ 2000) (w : World) (h1 : s ≠ [101, 110, 100]) (h2 : s ≠ [104, 105, 115, 116, 111, 114, 121]) (a b : List UInt8) (R : List (List UInt8)) (hL : spl 32 s = a :: b :: R) (ha : a = [114, 101, 97, 100]) (hb : b = [102, 97, 105, 108]) (c : List UInt8) (hR : R = [c]) (hv : rnum 10 18 c = none) : Calls Tryz.prog 24 #[.string (st s)] w (EffTo (rf s) w) := by
  have HRF : Hid (rf s = none) := Lib.hid (by
    unfold rf
    rw [if_neg h1, if_neg h2, hL]
    subst hR
    simp [rfL, ha, hb, tks, tk, num_rnum, hv])
  have q1 : ((st s).toList == [101, 110, 100]) = false := by rw [st_toList]; exact beq_eq_false_iff_ne.2 h1
  have q2 : ((st s).toList == [104, 105, 115, 116, 111, 114, 121]) = false := by rw [st_toList]; exact beq_eq_false_iff_ne.2 h2
  have qagot : ((st a).toList == [103, 111, 116]) = false := by rw [st_toList, ha]; rfl
  have qawas : ((st a).toList == [119, 97, 115]) = false := by rw [st_toList, ha]; rfl
  have qawrote : ((st a).toList == [119, 114, 111, 116, 101]) = false := by rw [st_toList, ha]; rfl
  have qaread : ((st a).toList == [114, 101, 97, 100]) = true := by rw [st_toList, ha]; rfl
  have qasignal : ((st a).toList == [115, 105, 103, 110, 97, 108]) = false := by rw [st_toList, ha]; rfl
  have qb1 : ((st b).toList == [111, 107]) = false := by rw [st_toList, hb]; rfl
  have qb2 : ((st b).toList == [102, 97, 105, 108]) = true := by rw [st_toList, hb]; rfl
  have HXhR := Lib.hid hR
  have HXhv := Lib.hid hv
  clear hR hv
  have HLL := Lib.hid hL
  clear hL h1 h2 ha hb
  have KC := Lib.hid (fun W => rcut_run s 32 (by omega) W)
  have cv : ((32 : UInt8).toNat : Int) = 32 := rfl
  rw [cv] at KC
  clear cv
  go_enter Tryz.func24, Tryz.ntmps24
  have H0 : Aside (EAt (w.alloc (.cells #[.int .i64 0, .int .u32 0, .int .u8 0, .int .u8 0, .slice none 0 0, .int .i64 0, .bool false] 43)) w.heap.size 0 0 0 0 (.slice none 0 0) 0 false ∧ Stp [] w [] (w.alloc (.cells #[.int .i64 0, .int .u32 0, .int .u8 0, .int .u8 0, .slice none 0 0, .int .i64 0, .bool false] 43)) ∧ (w.alloc (.cells #[.int .i64 0, .int .u32 0, .int .u8 0, .int .u8 0, .slice none 0 0, .int .i64 0, .bool false] 43)).heap.size = w.heap.size + 1) := ⟨heap_alloc_new w _, Stp.alloc [] w _, by simp⟩
  obtain ⟨g0, hg0⟩ : ∃ g0, g0 = w.heap.size := ⟨_, rfl⟩
  rw [← hg0] at H0
  go_upto_region 1 with fail
  rw [← hg0]
  have HG := Lib.hid hg0
  generalize w.alloc (.cells #[.int .i64 0, .int .u32 0, .int .u8 0, .int .u8 0, .slice none 0 0, .int .i64 0, .bool false] 43) = w0 at *
  clear hg0
  go_wp2_with fail
  refine (KC.out _).mono ?_
  rintro _ w1 ⟨v, rfl, ho, s1⟩
  obtain ⟨a, cap, rfl, hno, hpc, hcm, hcell⟩ := ho.form
  rcases a with _ | ad
  · exact absurd (hno rfl).2 (spl_ne 32 s)
  obtain ⟨gp, rfl, hb1, hb2, hpcs⟩ := hcell ad rfl
  obtain ⟨L, hL⟩ : ∃ L, L = spl 32 s := ⟨_, rfl⟩
  obtain ⟨p, hp⟩ : ∃ p, p = L.length := ⟨_, rfl⟩
  rw [← hL] at hpc hpcs ⊢
  rw [← hp] at hpc ⊢
  have HL := Lib.hid (And.intro hL hp)
  have H1 : Aside (EAt w1 g0 0 0 0 0 (.slice none 0 0) 0 false ∧ Stp [] w [] w1 ∧ (∀ j x, L[j]? = some x → w1.cell? ⟨gp, j, none⟩ = some (.string (st x))) ∧ g0 < gp ∧ gp < w1.heap.size) := ⟨H0.out.1.other s1 (by simp), H0.out.2.1.trans s1, hpcs, by have := H0.out.2.2; omega, hb2⟩
  clear H0 s1 ho hno hpcs hcell hb1 hb2 hL hp KC
  go_upto_region 3 with fail
  have H2 : Aside (EAt (w1.alloc (.cells #[.int .i64 0, .int .u32 0, .int .u8 0, .int .u8 0, .slice none 0 0, .int .i64 0, .bool false] 43)) g0 0 0 0 0 (.slice none 0 0) 0 false ∧ EAt (w1.alloc (.cells #[.int .i64 0, .int .u32 0, .int .u8 0, .int .u8 0, .slice none 0 0, .int .i64 0, .bool false] 43)) w1.heap.size 0 0 0 0 (.slice none 0 0) 0 false ∧ Stp [] w [] (w1.alloc (.cells #[.int .i64 0, .int .u32 0, .int .u8 0, .int .u8 0, .slice none 0 0, .int .i64 0, .bool false] 43)) ∧ (∀ j x, L[j]? = some x → (w1.alloc (.cells #[.int .i64 0, .int .u32 0, .int .u8 0, .int .u8 0, .slice none 0 0, .int .i64 0, .bool false] 43)).cell? ⟨gp, j, none⟩ = some (.string (st x))) ∧ (g0 < gp ∧ gp < w1.heap.size ∧ w1.heap.size < (w1.alloc (.cells #[.int .i64 0, .int .u32 0, .int .u8 0, .int .u8 0, .slice none 0 0, .int .i64 0, .bool false] 43)).heap.size)) :=
    ⟨H1.out.1.other (Stp.alloc [] _ _) (by simp), heap_alloc_new w1 _, H1.out.2.1.trans (Stp.alloc [] _ _), fun j x hx => ((Stp.alloc [] w1 (.cells #[.int .i64 0, .int .u32 0, .int .u8 0, .int .u8 0, .slice none 0 0, .int .i64 0, .bool false] 43)).cell (a := ⟨gp, j, none⟩) H1.out.2.2.2.2 (by simp)).trans (H1.out.2.2.1 j x hx), H1.out.2.2.2.1, H1.out.2.2.2.2, by simp⟩
  generalize w1.alloc (.cells #[.int .i64 0, .int .u32 0, .int .u8 0, .int .u8 0, .slice none 0 0, .int .i64 0, .bool false] 43) = w2 at *
  generalize w1.heap.size = g1 at *
  have c0 := H2.out.2.1.c0
  have c1 := H2.out.2.1.c1
  have c2 := H2.out.2.1.c2
  have c3 := H2.out.2.1.c3
  have c4 := H2.out.2.1.c4
  have c5 := H2.out.2.1.c5
  have c6 := H2.out.2.1.c6
  clear H1
  go_upto_region 4 with fail
  have H3 : Aside (T3 w (w2.alloc (.cells #[.int .i64 0, .int .u32 0, .int .u8 0, .int .u8 0, .slice none 0 0, .int .i64 0, .bool false] 43)) g0 g1 w2.heap.size gp L 0 0 0 0 (.slice none 0 0) 0 false) :=
    ⟨H2.out.1.other (Stp.alloc [] _ _) (by simp), H2.out.2.1.other (Stp.alloc [] _ _) (by simp), heap_alloc_new w2 _, H2.out.2.2.1.trans (Stp.alloc [] _ _), fun j x hx => ((Stp.alloc [] w2 (.cells #[.int .i64 0, .int .u32 0, .int .u8 0, .int .u8 0, .slice none 0 0, .int .i64 0, .bool false] 43)).cell (a := ⟨gp, j, none⟩) (Nat.lt_trans H2.out.2.2.2.2.2.1 H2.out.2.2.2.2.2.2) (by simp)).trans (H2.out.2.2.2.1 j x hx), by rw [HG.out]; exact Nat.le_refl _, H2.out.2.2.2.2.1, H2.out.2.2.2.2.2.1, H2.out.2.2.2.2.2.2, by have := H2.out.2.2.2.2; simp; omega⟩
  generalize w2.alloc (.cells #[.int .i64 0, .int .u32 0, .int .u8 0, .int .u8 0, .slice none 0 0, .int .i64 0, .bool false] 43) = w3 at *
  generalize w2.heap.size = g2 at *
  clear H2 c0 c1 c2 c3 c4 c5 c6
  have hLL : L = a :: b :: R := HL.out.1.trans HLL.out
  have d0 : w3.cell? ⟨gp, 0, none⟩ = some (.string (st a)) := H3.out.p 0 a (by rw [hLL]; rfl)
  have d1 : w3.cell? ⟨gp, 1, none⟩ = some (.string (st b)) := H3.out.p 1 b (by rw [hLL]; rfl)
  have hpR : p = R.length + 2 := by rw [HL.out.2, hLL]; rfl
  have hp2 : ¬ (p : Int) < 2 := by omega
  have hp0 : (0 : Int) < (p : Int) := by omega
  have hp1 : (1 : Int) < (p : Int) := by omega
  have HR := Lib.hid (And.intro hLL hpR)
  clear hLL hpR
  obtain ⟨q, hq⟩ : ∃ q, p = q + 1 := ⟨p - 1, by have := HR.out.2; omega⟩
  obtain ⟨z, hz⟩ : ∃ z, L[q]? = some z := ⟨L[q]'(by have := HL.out.2; omega), List.getElem?_eq_getElem _⟩
  have hzl : z.length ≤ 2000 := by have h1 := spl_mem_len 32 s z (by rw [← HL.out.1]; exact List.mem_of_getElem? hz); omega
  have KN := Lib.hid (fun W => rnum18_run z (by omega) W)
  obtain ⟨nz, hnz⟩ : ∃ nz, nz = rz (rnum 10 18 z) := ⟨_, rfl⟩
  rw [← hnz] at KN
  have HN := Lib.hid (And.intro hz (And.intro hnz hq))
  have hsub : IntKind.i64.wrap ((p : Int) - 1) = (q : Int) := by rw [IntKind.wrap_i64]; have := hcm; simp [maxLen] at this; omega
  have hq0 : (0 : Int) ≤ (q : Int) := by omega
  have hqp : (q : Int) < (p : Int) := by omega
  clear hz hnz hq hzl
  have k0 := H3.out.e.c6
  have k1 := H3.out.e.fz 6
  go_upto_region 13 with fail
  have H4 : Aside (T3 w (w3.setCell ⟨g1, 6, none⟩ (.bool false)) g0 g1 g2 gp L 0 0 0 0 (.slice none 0 0) 0 false) := H3.out.act (stp_one _ _ _ _) (H3.out.e.setO false)
  generalize w3.setCell ⟨g1, 6, none⟩ (.bool false) = w4 at *
  clear H3 k0 k1 d0 d1
  have d2 : w4.cell? ⟨gp, q, none⟩ = some (.string (st z)) := H4.out.p q z HN.out.1
  have d0 : w4.cell? ⟨gp, 0, none⟩ = some (.string (st a)) := H4.out.p 0 a (by rw [HR.out.1]; rfl)
  go_wp2_with fail
  refine (KN.out _).mono ?_
  rintro _ w4 ⟨rfl, rfl⟩
  clear KN d2
  go_upto_region 32 with fail
  clear d0
  have k0 := H4.out.e.c0
  have k1 := H4.out.e.fz 0
  go_upto_region 33 with fail
  have H5 : Aside (T3 w (w4.setCell ⟨g1, 0, none⟩ (.int .i64 3)) g0 g1 g2 gp L 3 0 0 0 (.slice none 0 0) 0 false) := H4.out.act (stp_one _ _ _ _) (H4.out.e.setK 3)
  generalize w4.setCell ⟨g1, 0, none⟩ (.int .i64 3) = w5 at *
  clear H4 k0 k1
  have hpe : ((p : Int) == 3) = true := by rw [beq_iff_eq]; have := HR.out.2; rw [HXhR.out] at this; simp at this; omega
  have hzb : z = c := by
    have h1 := HN.out.1
    have h2 := HN.out.2.2
    have h3 := HR.out.2
    rw [HR.out.1, HXhR.out] at h1
    rw [HXhR.out] at h3
    have h4 : q = 2 := by simp at h3; omega
    rw [h4] at h1
    simpa using h1.symm
  obtain rfl : nz = -1 := by rw [HN.out.2.1, hzb, HXhv.out]; rfl
  clear hzb
  go_upto_region 39 with fail
  have c0 := H5.out.r.c0
  have c1 := H5.out.r.c1
  have c2 := H5.out.r.c2
  have c3 := H5.out.r.c3
  have c4 := H5.out.r.c4
  have c5 := H5.out.r.c5
  have c6 := H5.out.r.c6
  have e0 := H5.out.z.c0
  have e1 := H5.out.z.c1
  have e2 := H5.out.z.c2
  have e3 := H5.out.z.c3
  have e4 := H5.out.z.c4
  have e5 := H5.out.z.c5
  have e6 := H5.out.z.c6
  have z0 := H5.out.r.fz 0
  have z1 := H5.out.r.fz 1
  have z2 := H5.out.r.fz 2
  have z3 := H5.out.r.fz 3
  have z4 := H5.out.r.fz 4
  have z5 := H5.out.r.fz 5
  have z6 := H5.out.r.fz 6
  go_wp2
  refine bodyPost_ret (res_eff2 rfl _ rfl (H5.out.r.set7 0 0 0 0 (.slice none 0 0) 0 false)) rfl ?_
  refine ⟨(H5.out.stp.fresh (stp7 _ _ _ _ _ _ _ _ _) (by have := H5.out.lo; simp; omega)).none, ?_⟩
  rw [HRF.out]
  rfl

set_option maxHeartbeats 2000000 in
set_option maxRecDepth 100000 in
theorem rd_readxf (s : List UInt8) (hs : s.length ≤ 2000) (w : World) (h1 : s ≠ [101, 110, 100]) (h2 : s ≠ [104, 105, 115, 116, 111, 114, 121]) (a b : List UInt8) (R : List (List UInt8)) (hL : spl 32 s = a :: b :: R) (ha : a = [114, 101, 97, 100]) (hb : b = [102, 97, 105, 108]) (hR : R.length ≠ 1) : Calls Tryz.prog 24 #[.string (st s)] w (EffTo (rf s) w) := by
  have HRF : Hid (rf s = none) := Lib.hid (by
    unfold rf
    rw [if_neg h1, if_neg h2, hL]
    rcases R with _ | ⟨c, _ | ⟨d, _ | ⟨e, _ | ⟨f, r⟩⟩⟩⟩
    · simp [rfL, ha]
    · simp at hR
    all_goals simp [rfL, ha])
  have q1 : ((st s).toList == [101, 110, 100]) = false := by rw [st_toList]; exact beq_eq_false_iff_ne.2 h1
  have q2 : ((st s).toList == [104, 105, 115, 116, 111, 114, 121]) = false := by rw [st_toList]; exact beq_eq_false_iff_ne.2 h2
  have qagot : ((st a).toList == [103, 111, 116]) = false := by rw [st_toList, ha]; rfl
  have qawas : ((st a).toList == [119, 97, 115]) = false := by rw [st_toList, ha]; rfl
  have qawrote : ((st a).toList == [119, 114, 111, 116, 101]) = false := by rw [st_toList, ha]; rfl
  have qaread : ((st a).toList == [114, 101, 97, 100]) = true := by rw [st_toList, ha]; rfl
  have qasignal : ((st a).toList == [115, 105, 103, 110, 97, 108]) = false := by rw [st_toList, ha]; rfl
  have qb1 : ((st b).toList == [111, 107]) = false := by rw [st_toList, hb]; rfl
  have qb2 : ((st b).toList == [102, 97, 105, 108]) = true := by rw [st_toList, hb]; rfl
  have HXhR := Lib.hid hR
  clear hR
  have HLL := Lib.hid hL
  clear hL h1 h2 ha hb
  have KC := Lib.hid (fun W => rcut_run s 32 (by omega) W)
  have cv : ((32 : UInt8).toNat : Int) = 32 := rfl
  rw [cv] at KC
  clear cv
  go_enter Tryz.func24, Tryz.ntmps24
  have H0 : Aside (EAt (w.alloc (.cells #[.int .i64 0, .int .u32 0, .int .u8 0, .int .u8 0, .slice none 0 0, .int .i64 0, .bool false] 43)) w.heap.size 0 0 0 0 (.slice none 0 0) 0 false ∧ Stp [] w [] (w.alloc (.cells #[.int .i64 0, .int .u32 0, .int .u8 0, .int .u8 0, .slice none 0 0, .int .i64 0, .bool false] 43)) ∧ (w.alloc (.cells #[.int .i64 0, .int .u32 0, .int .u8 0, .int .u8 0, .slice none 0 0, .int .i64 0, .bool false] 43)).heap.size = w.heap.size + 1) := ⟨heap_alloc_new w _, Stp.alloc [] w _, by simp⟩
  obtain ⟨g0, hg0⟩ : ∃ g0, g0 = w.heap.size := ⟨_, rfl⟩
  rw [← hg0] at H0
  go_upto_region 1 with fail
  rw [← hg0]
  have HG := Lib.hid hg0
  generalize w.alloc (.cells #[.int .i64 0, .int .u32 0, .int .u8 0, .int .u8 0, .slice none 0 0, .int .i64 0, .bool false] 43) = w0 at *
  clear hg0
  go_wp2_with fail
  refine (KC.out _).mono ?_
  rintro _ w1 ⟨v, rfl, ho, s1⟩
  obtain ⟨a, cap, rfl, hno, hpc, hcm, hcell⟩ := ho.form
  rcases a with _ | ad
  · exact absurd (hno rfl).2 (spl_ne 32 s)
  obtain ⟨gp, rfl, hb1, hb2, hpcs⟩ := hcell ad rfl
  obtain ⟨L, hL⟩ : ∃ L, L = spl 32 s := ⟨_, rfl⟩
  obtain ⟨p, hp⟩ : ∃ p, p = L.length := ⟨_, rfl⟩
  rw [← hL] at hpc hpcs ⊢
  rw [← hp] at hpc ⊢
  have HL := Lib.hid (And.intro hL hp)
  have H1 : Aside (EAt w1 g0 0 0 0 0 (.slice none 0 0) 0 false ∧ Stp [] w [] w1 ∧ (∀ j x, L[j]? = some x → w1.cell? ⟨gp, j, none⟩ = some (.string (st x))) ∧ g0 < gp ∧ gp < w1.heap.size) := ⟨H0.out.1.other s1 (by simp), H0.out.2.1.trans s1, hpcs, by have := H0.out.2.2; omega, hb2⟩
  clear H0 s1 ho hno hpcs hcell hb1 hb2 hL hp KC
  go_upto_region 3 with fail
  have H2 : Aside (EAt (w1.alloc (.cells #[.int .i64 0, .int .u32 0, .int .u8 0, .int .u8 0, .slice none 0 0, .int .i64 0, .bool false] 43)) g0 0 0 0 0 (.slice none 0 0) 0 false ∧ EAt (w1.alloc (.cells #[.int .i64 0, .int .u32 0, .int .u8 0, .int .u8 0, .slice none 0 0, .int .i64 0, .bool false] 43)) w1.heap.size 0 0 0 0 (.slice none 0 0) 0 false ∧ Stp [] w [] (w1.alloc (.cells #[.int .i64 0, .int .u32 0, .int .u8 0, .int .u8 0, .slice none 0 0, .int .i64 0, .bool false] 43)) ∧ (∀ j x, L[j]? = some x → (w1.alloc (.cells #[.int .i64 0, .int .u32 0, .int .u8 0, .int .u8 0, .slice none 0 0, .int .i64 0, .bool false] 43)).cell? ⟨gp, j, none⟩ = some (.string (st x))) ∧ (g0 < gp ∧ gp < w1.heap.size ∧ w1.heap.size < (w1.alloc (.cells #[.int .i64 0, .int .u32 0, .int .u8 0, .int .u8 0, .slice none 0 0, .int .i64 0, .bool false] 43)).heap.size)) :=
    ⟨H1.out.1.other (Stp.alloc [] _ _) (by simp), heap_alloc_new w1 _, H1.out.2.1.trans (Stp.alloc [] _ _), fun j x hx => ((Stp.alloc [] w1 (.cells #[.int .i64 0, .int .u32 0, .int .u8 0, .int .u8 0, .slice none 0 0, .int .i64 0, .bool false] 43)).cell (a := ⟨gp, j, none⟩) H1.out.2.2.2.2 (by simp)).trans (H1.out.2.2.1 j x hx), H1.out.2.2.2.1, H1.out.2.2.2.2, by simp⟩
  generalize w1.alloc (.cells #[.int .i64 0, .int .u32 0, .int .u8 0, .int .u8 0, .slice none 0 0, .int .i64 0, .bool false] 43) = w2 at *
  generalize w1.heap.size = g1 at *
  have c0 := H2.out.2.1.c0
  have c1 := H2.out.2.1.c1
  have c2 := H2.out.2.1.c2
  have c3 := H2.out.2.1.c3
  have c4 := H2.out.2.1.c4
  have c5 := H2.out.2.1.c5
  have c6 := H2.out.2.1.c6
  clear H1
  go_upto_region 4 with fail
  have H3 : Aside (T3 w (w2.alloc (.cells #[.int .i64 0, .int .u32 0, .int .u8 0, .int .u8 0, .slice none 0 0, .int .i64 0, .bool false] 43)) g0 g1 w2.heap.size gp L 0 0 0 0 (.slice none 0 0) 0 false) :=
    ⟨H2.out.1.other (Stp.alloc [] _ _) (by simp), H2.out.2.1.other (Stp.alloc [] _ _) (by simp), heap_alloc_new w2 _, H2.out.2.2.1.trans (Stp.alloc [] _ _), fun j x hx => ((Stp.alloc [] w2 (.cells #[.int .i64 0, .int .u32 0, .int .u8 0, .int .u8 0, .slice none 0 0, .int .i64 0, .bool false] 43)).cell (a := ⟨gp, j, none⟩) (Nat.lt_trans H2.out.2.2.2.2.2.1 H2.out.2.2.2.2.2.2) (by simp)).trans (H2.out.2.2.2.1 j x hx), by rw [HG.out]; exact Nat.le_refl _, H2.out.2.2.2.2.1, H2.out.2.2.2.2.2.1, H2.out.2.2.2.2.2.2, by have := H2.out.2.2.2.2; simp; omega⟩
  generalize w2.alloc (.cells #[.int .i64 0, .int .u32 0, .int .u8 0, .int .u8 0, .slice none 0 0, .int .i64 0, .bool false] 43) = w3 at *
  generalize w2.heap.size = g2 at *
  clear H2 c0 c1 c2 c3 c4 c5 c6
  have hLL : L = a :: b :: R := HL.out.1.trans HLL.out
  have d0 : w3.cell? ⟨gp, 0, none⟩ = some (.string (st a)) := H3.out.p 0 a (by rw [hLL]; rfl)
  have d1 : w3.cell? ⟨gp, 1, none⟩ = some (.string (st b)) := H3.out.p 1 b (by rw [hLL]; rfl)
  have hpR : p = R.length + 2 := by rw [HL.out.2, hLL]; rfl
  have hp2 : ¬ (p : Int) < 2 := by omega
  have hp0 : (0 : Int) < (p : Int) := by omega
  have hp1 : (1 : Int) < (p : Int) := by omega
  have HR := Lib.hid (And.intro hLL hpR)
  clear hLL hpR
  obtain ⟨q, hq⟩ : ∃ q, p = q + 1 := ⟨p - 1, by have := HR.out.2; omega⟩
  obtain ⟨z, hz⟩ : ∃ z, L[q]? = some z := ⟨L[q]'(by have := HL.out.2; omega), List.getElem?_eq_getElem _⟩
  have hzl : z.length ≤ 2000 := by have h1 := spl_mem_len 32 s z (by rw [← HL.out.1]; exact List.mem_of_getElem? hz); omega
  have KN := Lib.hid (fun W => rnum18_run z (by omega) W)
  obtain ⟨nz, hnz⟩ : ∃ nz, nz = rz (rnum 10 18 z) := ⟨_, rfl⟩
  rw [← hnz] at KN
  have HN := Lib.hid (And.intro hz (And.intro hnz hq))
  have hsub : IntKind.i64.wrap ((p : Int) - 1) = (q : Int) := by rw [IntKind.wrap_i64]; have := hcm; simp [maxLen] at this; omega
  have hq0 : (0 : Int) ≤ (q : Int) := by omega
  have hqp : (q : Int) < (p : Int) := by omega
  clear hz hnz hq hzl
  have k0 := H3.out.e.c6
  have k1 := H3.out.e.fz 6
  go_upto_region 13 with fail
  have H4 : Aside (T3 w (w3.setCell ⟨g1, 6, none⟩ (.bool false)) g0 g1 g2 gp L 0 0 0 0 (.slice none 0 0) 0 false) := H3.out.act (stp_one _ _ _ _) (H3.out.e.setO false)
  generalize w3.setCell ⟨g1, 6, none⟩ (.bool false) = w4 at *
  clear H3 k0 k1 d0 d1
  have d2 : w4.cell? ⟨gp, q, none⟩ = some (.string (st z)) := H4.out.p q z HN.out.1
  have d0 : w4.cell? ⟨gp, 0, none⟩ = some (.string (st a)) := H4.out.p 0 a (by rw [HR.out.1]; rfl)
  go_wp2_with fail
  refine (KN.out _).mono ?_
  rintro _ w4 ⟨rfl, rfl⟩
  clear KN d2
  go_upto_region 32 with fail
  clear d0
  have k0 := H4.out.e.c0
  have k1 := H4.out.e.fz 0
  go_upto_region 33 with fail
  have H5 : Aside (T3 w (w4.setCell ⟨g1, 0, none⟩ (.int .i64 3)) g0 g1 g2 gp L 3 0 0 0 (.slice none 0 0) 0 false) := H4.out.act (stp_one _ _ _ _) (H4.out.e.setK 3)
  generalize w4.setCell ⟨g1, 0, none⟩ (.int .i64 3) = w5 at *
  clear H4 k0 k1
  have hpe : ((p : Int) == 3) = false := by
    rw [beq_eq_false_iff_ne]
    have h1 := HR.out.2
    have h2 := HXhR.out
    omega
  go_upto_region 39 with fail
  have c0 := H5.out.r.c0
  have c1 := H5.out.r.c1
  have c2 := H5.out.r.c2
  have c3 := H5.out.r.c3
  have c4 := H5.out.r.c4
  have c5 := H5.out.r.c5
  have c6 := H5.out.r.c6
  have e0 := H5.out.z.c0
  have e1 := H5.out.z.c1
  have e2 := H5.out.z.c2
  have e3 := H5.out.z.c3
  have e4 := H5.out.z.c4
  have e5 := H5.out.z.c5
  have e6 := H5.out.z.c6
  have z0 := H5.out.r.fz 0
  have z1 := H5.out.r.fz 1
  have z2 := H5.out.r.fz 2
  have z3 := H5.out.r.fz 3
  have z4 := H5.out.r.fz 4
  have z5 := H5.out.r.fz 5
  have z6 := H5.out.r.fz 6
  go_wp2
  refine bodyPost_ret (res_eff2 rfl _ rfl (H5.out.r.set7 0 0 0 0 (.slice none 0 0) 0 false)) rfl ?_
  refine ⟨(H5.out.stp.fresh (stp7 _ _ _ _ _ _ _ _ _) (by have := H5.out.lo; simp; omega)).none, ?_⟩
  rw [HRF.out]
  rfl

set_option maxHeartbeats 2000000 in
set_option maxRecDepth 100000 in
theorem rd_wrotext (s : List UInt8) (hs : s.length ≤ 2000) (w : World) (h1 : s ≠ [101, 110, 100]) (h2 : s ≠ [104, 105, 115, 116, 111, 114, 121]) (a b : List UInt8) (R : List (List UInt8)) (hL : spl 32 s = a :: b :: R) (ha : a = [119, 114, 111, 116, 101]) (hb : b = [111, 107]) (hR : R.length ≠ 2) : Calls Tryz.prog 24 #[.string (st s)] w (EffTo (rf s) w) := by
  have HRF : Hid (rf s = none) := Lib.hid (by
    unfold rf
    rw [if_neg h1, if_neg h2, hL]
    rcases R with _ | ⟨c, _ | ⟨d, _ | ⟨e, _ | ⟨f, r⟩⟩⟩⟩
    · simp [rfL, ha]
    · simp [rfL, ha]
    · simp at hR
    all_goals simp [rfL, ha])
  have q1 : ((st s).toList == [101, 110, 100]) = false := by rw [st_toList]; exact beq_eq_false_iff_ne.2 h1
  have q2 : ((st s).toList == [104, 105, 115, 116, 111, 114, 121]) = false := by rw [st_toList]; exact beq_eq_false_iff_ne.2 h2
  have qagot : ((st a).toList == [103, 111, 116]) = false := by rw [st_toList, ha]; rfl
  have qawas : ((st a).toList == [119, 97, 115]) = false := by rw [st_toList, ha]; rfl
  have qawrote : ((st a).toList == [119, 114, 111, 116, 101]) = true := by rw [st_toList, ha]; rfl
  have qaread : ((st a).toList == [114, 101, 97, 100]) = false := by rw [st_toList, ha]; rfl
  have qasignal : ((st a).toList == [115, 105, 103, 110, 97, 108]) = false := by rw [st_toList, ha]; rfl
  have qb1 : ((st b).toList == [111, 107]) = true := by rw [st_toList, hb]; rfl
  have HXhR := Lib.hid hR
  clear hR
  have HLL := Lib.hid hL
  clear hL h1 h2 ha hb
  have KC := Lib.hid (fun W => rcut_run s 32 (by omega) W)
  have cv : ((32 : UInt8).toNat : Int) = 32 := rfl
  rw [cv] at KC
  clear cv
  go_enter Tryz.func24, Tryz.ntmps24
  have H0 : Aside (EAt (w.alloc (.cells #[.int .i64 0, .int .u32 0, .int .u8 0, .int .u8 0, .slice none 0 0, .int .i64 0, .bool false] 43)) w.heap.size 0 0 0 0 (.slice none 0 0) 0 false ∧ Stp [] w [] (w.alloc (.cells #[.int .i64 0, .int .u32 0, .int .u8 0, .int .u8 0, .slice none 0 0, .int .i64 0, .bool false] 43)) ∧ (w.alloc (.cells #[.int .i64 0, .int .u32 0, .int .u8 0, .int .u8 0, .slice none 0 0, .int .i64 0, .bool false] 43)).heap.size = w.heap.size + 1) := ⟨heap_alloc_new w _, Stp.alloc [] w _, by simp⟩
  obtain ⟨g0, hg0⟩ : ∃ g0, g0 = w.heap.size := ⟨_, rfl⟩
  rw [← hg0] at H0
  go_upto_region 1 with fail
  rw [← hg0]
  have HG := Lib.hid hg0
  generalize w.alloc (.cells #[.int .i64 0, .int .u32 0, .int .u8 0, .int .u8 0, .slice none 0 0, .int .i64 0, .bool false] 43) = w0 at *
  clear hg0
  go_wp2_with fail
  refine (KC.out _).mono ?_
  rintro _ w1 ⟨v, rfl, ho, s1⟩
  obtain ⟨a, cap, rfl, hno, hpc, hcm, hcell⟩ := ho.form
  rcases a with _ | ad
  · exact absurd (hno rfl).2 (spl_ne 32 s)
  obtain ⟨gp, rfl, hb1, hb2, hpcs⟩ := hcell ad rfl
  obtain ⟨L, hL⟩ : ∃ L, L = spl 32 s := ⟨_, rfl⟩
  obtain ⟨p, hp⟩ : ∃ p, p = L.length := ⟨_, rfl⟩
  rw [← hL] at hpc hpcs ⊢
  rw [← hp] at hpc ⊢
  have HL := Lib.hid (And.intro hL hp)
  have H1 : Aside (EAt w1 g0 0 0 0 0 (.slice none 0 0) 0 false ∧ Stp [] w [] w1 ∧ (∀ j x, L[j]? = some x → w1.cell? ⟨gp, j, none⟩ = some (.string (st x))) ∧ g0 < gp ∧ gp < w1.heap.size) := ⟨H0.out.1.other s1 (by simp), H0.out.2.1.trans s1, hpcs, by have := H0.out.2.2; omega, hb2⟩
  clear H0 s1 ho hno hpcs hcell hb1 hb2 hL hp KC
  go_upto_region 3 with fail
  have H2 : Aside (EAt (w1.alloc (.cells #[.int .i64 0, .int .u32 0, .int .u8 0, .int .u8 0, .slice none 0 0, .int .i64 0, .bool false] 43)) g0 0 0 0 0 (.slice none 0 0) 0 false ∧ EAt (w1.alloc (.cells #[.int .i64 0, .int .u32 0, .int .u8 0, .int .u8 0, .slice none 0 0, .int .i64 0, .bool false] 43)) w1.heap.size 0 0 0 0 (.slice none 0 0) 0 false ∧ Stp [] w [] (w1.alloc (.cells #[.int .i64 0, .int .u32 0, .int .u8 0, .int .u8 0, .slice none 0 0, .int .i64 0, .bool false] 43)) ∧ (∀ j x, L[j]? = some x → (w1.alloc (.cells #[.int .i64 0, .int .u32 0, .int .u8 0, .int .u8 0, .slice none 0 0, .int .i64 0, .bool false] 43)).cell? ⟨gp, j, none⟩ = some (.string (st x))) ∧ (g0 < gp ∧ gp < w1.heap.size ∧ w1.heap.size < (w1.alloc (.cells #[.int .i64 0, .int .u32 0, .int .u8 0, .int .u8 0, .slice none 0 0, .int .i64 0, .bool false] 43)).heap.size)) :=
    ⟨H1.out.1.other (Stp.alloc [] _ _) (by simp), heap_alloc_new w1 _, H1.out.2.1.trans (Stp.alloc [] _ _), fun j x hx => ((Stp.alloc [] w1 (.cells #[.int .i64 0, .int .u32 0, .int .u8 0, .int .u8 0, .slice none 0 0, .int .i64 0, .bool false] 43)).cell (a := ⟨gp, j, none⟩) H1.out.2.2.2.2 (by simp)).trans (H1.out.2.2.1 j x hx), H1.out.2.2.2.1, H1.out.2.2.2.2, by simp⟩
  generalize w1.alloc (.cells #[.int .i64 0, .int .u32 0, .int .u8 0, .int .u8 0, .slice none 0 0, .int .i64 0, .bool false] 43) = w2 at *
  generalize w1.heap.size = g1 at *
  have c0 := H2.out.2.1.c0
  have c1 := H2.out.2.1.c1
  have c2 := H2.out.2.1.c2
  have c3 := H2.out.2.1.c3
  have c4 := H2.out.2.1.c4
  have c5 := H2.out.2.1.c5
  have c6 := H2.out.2.1.c6
  clear H1
  go_upto_region 4 with fail
  have H3 : Aside (T3 w (w2.alloc (.cells #[.int .i64 0, .int .u32 0, .int .u8 0, .int .u8 0, .slice none 0 0, .int .i64 0, .bool false] 43)) g0 g1 w2.heap.size gp L 0 0 0 0 (.slice none 0 0) 0 false) :=
    ⟨H2.out.1.other (Stp.alloc [] _ _) (by simp), H2.out.2.1.other (Stp.alloc [] _ _) (by simp), heap_alloc_new w2 _, H2.out.2.2.1.trans (Stp.alloc [] _ _), fun j x hx => ((Stp.alloc [] w2 (.cells #[.int .i64 0, .int .u32 0, .int .u8 0, .int .u8 0, .slice none 0 0, .int .i64 0, .bool false] 43)).cell (a := ⟨gp, j, none⟩) (Nat.lt_trans H2.out.2.2.2.2.2.1 H2.out.2.2.2.2.2.2) (by simp)).trans (H2.out.2.2.2.1 j x hx), by rw [HG.out]; exact Nat.le_refl _, H2.out.2.2.2.2.1, H2.out.2.2.2.2.2.1, H2.out.2.2.2.2.2.2, by have := H2.out.2.2.2.2; simp; omega⟩
  generalize w2.alloc (.cells #[.int .i64 0, .int .u32 0, .int .u8 0, .int .u8 0, .slice none 0 0, .int .i64 0, .bool false] 43) = w3 at *
  generalize w2.heap.size = g2 at *
  clear H2 c0 c1 c2 c3 c4 c5 c6
  have hLL : L = a :: b :: R := HL.out.1.trans HLL.out
  have d0 : w3.cell? ⟨gp, 0, none⟩ = some (.string (st a)) := H3.out.p 0 a (by rw [hLL]; rfl)
  have d1 : w3.cell? ⟨gp, 1, none⟩ = some (.string (st b)) := H3.out.p 1 b (by rw [hLL]; rfl)
  have hpR : p = R.length + 2 := by rw [HL.out.2, hLL]; rfl
  have hp2 : ¬ (p : Int) < 2 := by omega
  have hp0 : (0 : Int) < (p : Int) := by omega
  have hp1 : (1 : Int) < (p : Int) := by omega
  have HR := Lib.hid (And.intro hLL hpR)
  clear hLL hpR
  obtain ⟨q, hq⟩ : ∃ q, p = q + 1 := ⟨p - 1, by have := HR.out.2; omega⟩
  obtain ⟨z, hz⟩ : ∃ z, L[q]? = some z := ⟨L[q]'(by have := HL.out.2; omega), List.getElem?_eq_getElem _⟩
  have hzl : z.length ≤ 2000 := by have h1 := spl_mem_len 32 s z (by rw [← HL.out.1]; exact List.mem_of_getElem? hz); omega
  have KN := Lib.hid (fun W => rnum18_run z (by omega) W)
  obtain ⟨nz, hnz⟩ : ∃ nz, nz = rz (rnum 10 18 z) := ⟨_, rfl⟩
  rw [← hnz] at KN
  have HN := Lib.hid (And.intro hz (And.intro hnz hq))
  have hsub : IntKind.i64.wrap ((p : Int) - 1) = (q : Int) := by rw [IntKind.wrap_i64]; have := hcm; simp [maxLen] at this; omega
  have hq0 : (0 : Int) ≤ (q : Int) := by omega
  have hqp : (q : Int) < (p : Int) := by omega
  clear hz hnz hq hzl
  have k0 := H3.out.e.c6
  have k1 := H3.out.e.fz 6
  go_upto_region 13 with fail
  have H4 : Aside (T3 w (w3.setCell ⟨g1, 6, none⟩ (.bool true)) g0 g1 g2 gp L 0 0 0 0 (.slice none 0 0) 0 true) := H3.out.act (stp_one _ _ _ _) (H3.out.e.setO true)
  generalize w3.setCell ⟨g1, 6, none⟩ (.bool true) = w4 at *
  clear H3 k0 k1 d0 d1
  have d2 : w4.cell? ⟨gp, q, none⟩ = some (.string (st z)) := H4.out.p q z HN.out.1
  have d0 : w4.cell? ⟨gp, 0, none⟩ = some (.string (st a)) := H4.out.p 0 a (by rw [HR.out.1]; rfl)
  go_wp2_with fail
  refine (KN.out _).mono ?_
  rintro _ w4 ⟨rfl, rfl⟩
  clear KN d2
  have hpe : ((p : Int) != 4) = true := by
    rw [bne_iff_ne]
    have h1 := HR.out.2
    have h2 := HXhR.out
    omega
  go_upto_region 28 with fail
  have c0 := H4.out.r.c0
  have c1 := H4.out.r.c1
  have c2 := H4.out.r.c2
  have c3 := H4.out.r.c3
  have c4 := H4.out.r.c4
  have c5 := H4.out.r.c5
  have c6 := H4.out.r.c6
  have e0 := H4.out.z.c0
  have e1 := H4.out.z.c1
  have e2 := H4.out.z.c2
  have e3 := H4.out.z.c3
  have e4 := H4.out.z.c4
  have e5 := H4.out.z.c5
  have e6 := H4.out.z.c6
  have z0 := H4.out.r.fz 0
  have z1 := H4.out.r.fz 1
  have z2 := H4.out.r.fz 2
  have z3 := H4.out.r.fz 3
  have z4 := H4.out.r.fz 4
  have z5 := H4.out.r.fz 5
  have z6 := H4.out.r.fz 6
  go_wp2
  refine bodyPost_ret (res_eff2 rfl _ rfl (H4.out.r.set7 0 0 0 0 (.slice none 0 0) 0 false)) rfl ?_
  refine ⟨(H4.out.stp.fresh (stp7 _ _ _ _ _ _ _ _ _) (by have := H4.out.lo; simp; omega)).none, ?_⟩
  rw [HRF.out]
  rfl

set_option maxHeartbeats 2000000 in
set_option maxRecDepth 100000 in
theorem rd_gotxt (s : List UInt8) (hs : s.length ≤ 2000) (w : World) (h1 : s ≠ [101, 110, 100]) (h2 : s ≠ [104, 105, 115, 116, 111, 114, 121]) (a b : List UInt8) (R : List (List UInt8)) (hL : spl 32 s = a :: b :: R) (ha : a = [103, 111, 116]) (hb : b = [111, 107]) (hR : R.length ≠ 3) : Calls Tryz.prog 24 #[.string (st s)] w (EffTo (rf s) w) := by
  have HRF : Hid (rf s = none) := Lib.hid (by
    unfold rf
    rw [if_neg h1, if_neg h2, hL]
    rcases R with _ | ⟨c, _ | ⟨d, _ | ⟨e, _ | ⟨f, r⟩⟩⟩⟩
    · simp [rfL, ha]
    · simp [rfL, ha]
    · simp [rfL, ha]
    · simp at hR
    · simp [rfL, ha])
  have q1 : ((st s).toList == [101, 110, 100]) = false := by rw [st_toList]; exact beq_eq_false_iff_ne.2 h1
  have q2 : ((st s).toList == [104, 105, 115, 116, 111, 114, 121]) = false := by rw [st_toList]; exact beq_eq_false_iff_ne.2 h2
  have qagot : ((st a).toList == [103, 111, 116]) = true := by rw [st_toList, ha]; rfl
  have qawas : ((st a).toList == [119, 97, 115]) = false := by rw [st_toList, ha]; rfl
  have qawrote : ((st a).toList == [119, 114, 111, 116, 101]) = false := by rw [st_toList, ha]; rfl
  have qaread : ((st a).toList == [114, 101, 97, 100]) = false := by rw [st_toList, ha]; rfl
  have qasignal : ((st a).toList == [115, 105, 103, 110, 97, 108]) = false := by rw [st_toList, ha]; rfl
  have qb1 : ((st b).toList == [111, 107]) = true := by rw [st_toList, hb]; rfl
  have HXhR := Lib.hid hR
  clear hR
  have HLL := Lib.hid hL
  clear hL h1 h2 ha hb
  have KC := Lib.hid (fun W => rcut_run s 32 (by omega) W)
  have cv : ((32 : UInt8).toNat : Int) = 32 := rfl
  rw [cv] at KC
  clear cv
  go_enter Tryz.func24, Tryz.ntmps24
  have H0 : Aside (EAt (w.alloc (.cells #[.int .i64 0, .int .u32 0, .int .u8 0, .int .u8 0, .slice none 0 0, .int .i64 0, .bool false] 43)) w.heap.size 0 0 0 0 (.slice none 0 0) 0 false ∧ Stp [] w [] (w.alloc (.cells #[.int .i64 0, .int .u32 0, .int .u8 0, .int .u8 0, .slice none 0 0, .int .i64 0, .bool false] 43)) ∧ (w.alloc (.cells #[.int .i64 0, .int .u32 0, .int .u8 0, .int .u8 0, .slice none 0 0, .int .i64 0, .bool false] 43)).heap.size = w.heap.size + 1) := ⟨heap_alloc_new w _, Stp.alloc [] w _, by simp⟩
  obtain ⟨g0, hg0⟩ : ∃ g0, g0 = w.heap.size := ⟨_, rfl⟩
  rw [← hg0] at H0
  go_upto_region 1 with fail
  rw [← hg0]
  have HG := Lib.hid hg0
  generalize w.alloc (.cells #[.int .i64 0, .int .u32 0, .int .u8 0, .int .u8 0, .slice none 0 0, .int .i64 0, .bool false] 43) = w0 at *
  clear hg0
  go_wp2_with fail
  refine (KC.out _).mono ?_
  rintro _ w1 ⟨v, rfl, ho, s1⟩
  obtain ⟨a, cap, rfl, hno, hpc, hcm, hcell⟩ := ho.form
  rcases a with _ | ad
  · exact absurd (hno rfl).2 (spl_ne 32 s)
  obtain ⟨gp, rfl, hb1, hb2, hpcs⟩ := hcell ad rfl
  obtain ⟨L, hL⟩ : ∃ L, L = spl 32 s := ⟨_, rfl⟩
  obtain ⟨p, hp⟩ : ∃ p, p = L.length := ⟨_, rfl⟩
  rw [← hL] at hpc hpcs ⊢
  rw [← hp] at hpc ⊢
  have HL := Lib.hid (And.intro hL hp)
  have H1 : Aside (EAt w1 g0 0 0 0 0 (.slice none 0 0) 0 false ∧ Stp [] w [] w1 ∧ (∀ j x, L[j]? = some x → w1.cell? ⟨gp, j, none⟩ = some (.string (st x))) ∧ g0 < gp ∧ gp < w1.heap.size) := ⟨H0.out.1.other s1 (by simp), H0.out.2.1.trans s1, hpcs, by have := H0.out.2.2; omega, hb2⟩
  clear H0 s1 ho hno hpcs hcell hb1 hb2 hL hp KC
  go_upto_region 3 with fail
  have H2 : Aside (EAt (w1.alloc (.cells #[.int .i64 0, .int .u32 0, .int .u8 0, .int .u8 0, .slice none 0 0, .int .i64 0, .bool false] 43)) g0 0 0 0 0 (.slice none 0 0) 0 false ∧ EAt (w1.alloc (.cells #[.int .i64 0, .int .u32 0, .int .u8 0, .int .u8 0, .slice none 0 0, .int .i64 0, .bool false] 43)) w1.heap.size 0 0 0 0 (.slice none 0 0) 0 false ∧ Stp [] w [] (w1.alloc (.cells #[.int .i64 0, .int .u32 0, .int .u8 0, .int .u8 0, .slice none 0 0, .int .i64 0, .bool false] 43)) ∧ (∀ j x, L[j]? = some x → (w1.alloc (.cells #[.int .i64 0, .int .u32 0, .int .u8 0, .int .u8 0, .slice none 0 0, .int .i64 0, .bool false] 43)).cell? ⟨gp, j, none⟩ = some (.string (st x))) ∧ (g0 < gp ∧ gp < w1.heap.size ∧ w1.heap.size < (w1.alloc (.cells #[.int .i64 0, .int .u32 0, .int .u8 0, .int .u8 0, .slice none 0 0, .int .i64 0, .bool false] 43)).heap.size)) :=
    ⟨H1.out.1.other (Stp.alloc [] _ _) (by simp), heap_alloc_new w1 _, H1.out.2.1.trans (Stp.alloc [] _ _), fun j x hx => ((Stp.alloc [] w1 (.cells #[.int .i64 0, .int .u32 0, .int .u8 0, .int .u8 0, .slice none 0 0, .int .i64 0, .bool false] 43)).cell (a := ⟨gp, j, none⟩) H1.out.2.2.2.2 (by simp)).trans (H1.out.2.2.1 j x hx), H1.out.2.2.2.1, H1.out.2.2.2.2, by simp⟩
  generalize w1.alloc (.cells #[.int .i64 0, .int .u32 0, .int .u8 0, .int .u8 0, .slice none 0 0, .int .i64 0, .bool false] 43) = w2 at *
  generalize w1.heap.size = g1 at *
  have c0 := H2.out.2.1.c0
  have c1 := H2.out.2.1.c1
  have c2 := H2.out.2.1.c2
  have c3 := H2.out.2.1.c3
  have c4 := H2.out.2.1.c4
  have c5 := H2.out.2.1.c5
  have c6 := H2.out.2.1.c6
  clear H1
  go_upto_region 4 with fail
  have H3 : Aside (T3 w (w2.alloc (.cells #[.int .i64 0, .int .u32 0, .int .u8 0, .int .u8 0, .slice none 0 0, .int .i64 0, .bool false] 43)) g0 g1 w2.heap.size gp L 0 0 0 0 (.slice none 0 0) 0 false) :=
    ⟨H2.out.1.other (Stp.alloc [] _ _) (by simp), H2.out.2.1.other (Stp.alloc [] _ _) (by simp), heap_alloc_new w2 _, H2.out.2.2.1.trans (Stp.alloc [] _ _), fun j x hx => ((Stp.alloc [] w2 (.cells #[.int .i64 0, .int .u32 0, .int .u8 0, .int .u8 0, .slice none 0 0, .int .i64 0, .bool false] 43)).cell (a := ⟨gp, j, none⟩) (Nat.lt_trans H2.out.2.2.2.2.2.1 H2.out.2.2.2.2.2.2) (by simp)).trans (H2.out.2.2.2.1 j x hx), by rw [HG.out]; exact Nat.le_refl _, H2.out.2.2.2.2.1, H2.out.2.2.2.2.2.1, H2.out.2.2.2.2.2.2, by have := H2.out.2.2.2.2; simp; omega⟩
  generalize w2.alloc (.cells #[.int .i64 0, .int .u32 0, .int .u8 0, .int .u8 0, .slice none 0 0, .int .i64 0, .bool false] 43) = w3 at *
  generalize w2.heap.size = g2 at *
  clear H2 c0 c1 c2 c3 c4 c5 c6
  have hLL : L = a :: b :: R := HL.out.1.trans HLL.out
  have d0 : w3.cell? ⟨gp, 0, none⟩ = some (.string (st a)) := H3.out.p 0 a (by rw [hLL]; rfl)
  have d1 : w3.cell? ⟨gp, 1, none⟩ = some (.string (st b)) := H3.out.p 1 b (by rw [hLL]; rfl)
  have hpR : p = R.length + 2 := by rw [HL.out.2, hLL]; rfl
  have hp2 : ¬ (p : Int) < 2 := by omega
  have hp0 : (0 : Int) < (p : Int) := by omega
  have hp1 : (1 : Int) < (p : Int) := by omega
  have HR := Lib.hid (And.intro hLL hpR)
  clear hLL hpR
  obtain ⟨q, hq⟩ : ∃ q, p = q + 1 := ⟨p - 1, by have := HR.out.2; omega⟩
  obtain ⟨z, hz⟩ : ∃ z, L[q]? = some z := ⟨L[q]'(by have := HL.out.2; omega), List.getElem?_eq_getElem _⟩
  have hzl : z.length ≤ 2000 := by have h1 := spl_mem_len 32 s z (by rw [← HL.out.1]; exact List.mem_of_getElem? hz); omega
  have KN := Lib.hid (fun W => rnum18_run z (by omega) W)
  obtain ⟨nz, hnz⟩ : ∃ nz, nz = rz (rnum 10 18 z) := ⟨_, rfl⟩
  rw [← hnz] at KN
  have HN := Lib.hid (And.intro hz (And.intro hnz hq))
  have hsub : IntKind.i64.wrap ((p : Int) - 1) = (q : Int) := by rw [IntKind.wrap_i64]; have := hcm; simp [maxLen] at this; omega
  have hq0 : (0 : Int) ≤ (q : Int) := by omega
  have hqp : (q : Int) < (p : Int) := by omega
  clear hz hnz hq hzl
  have k0 := H3.out.e.c6
  have k1 := H3.out.e.fz 6
  go_upto_region 13 with fail
  have H4 : Aside (T3 w (w3.setCell ⟨g1, 6, none⟩ (.bool true)) g0 g1 g2 gp L 0 0 0 0 (.slice none 0 0) 0 true) := H3.out.act (stp_one _ _ _ _) (H3.out.e.setO true)
  generalize w3.setCell ⟨g1, 6, none⟩ (.bool true) = w4 at *
  clear H3 k0 k1 d0 d1
  have d2 : w4.cell? ⟨gp, q, none⟩ = some (.string (st z)) := H4.out.p q z HN.out.1
  have d0 : w4.cell? ⟨gp, 0, none⟩ = some (.string (st a)) := H4.out.p 0 a (by rw [HR.out.1]; rfl)
  go_wp2_with fail
  refine (KN.out _).mono ?_
  rintro _ w4 ⟨rfl, rfl⟩
  clear KN d2
  have hpe : ((p : Int) != 5) = true := by
    rw [bne_iff_ne]
    have h1 := HR.out.2
    have h2 := HXhR.out
    omega
  go_upto_region 20 with fail
  have c0 := H4.out.r.c0
  have c1 := H4.out.r.c1
  have c2 := H4.out.r.c2
  have c3 := H4.out.r.c3
  have c4 := H4.out.r.c4
  have c5 := H4.out.r.c5
  have c6 := H4.out.r.c6
  have e0 := H4.out.z.c0
  have e1 := H4.out.z.c1
  have e2 := H4.out.z.c2
  have e3 := H4.out.z.c3
  have e4 := H4.out.z.c4
  have e5 := H4.out.z.c5
  have e6 := H4.out.z.c6
  have z0 := H4.out.r.fz 0
  have z1 := H4.out.r.fz 1
  have z2 := H4.out.r.fz 2
  have z3 := H4.out.r.fz 3
  have z4 := H4.out.r.fz 4
  have z5 := H4.out.r.fz 5
  have z6 := H4.out.r.fz 6
  go_wp2
  refine bodyPost_ret (res_eff2 rfl _ rfl (H4.out.r.set7 0 0 0 0 (.slice none 0 0) 0 false)) rfl ?_
  refine ⟨(H4.out.stp.fresh (stp7 _ _ _ _ _ _ _ _ _) (by have := H4.out.lo; simp; omega)).none, ?_⟩
  rw [HRF.out]
  rfl

set_option maxHeartbeats 2000000 in
set_option maxRecDepth 100000 in
theorem rd_wasxt (s : List UInt8) (hs : s.length ≤ 2000) (w : World) (h1 : s ≠ [101, 110, 100]) (h2 : s ≠ [104, 105, 115, 116, 111, 114, 121]) (a b : List UInt8) (R : List (List UInt8)) (hL : spl 32 s = a :: b :: R) (ha : a = [119, 97, 115]) (hb : b = [111, 107]) (hR : R.length ≠ 3) : Calls Tryz.prog 24 #[.string (st s)] w (EffTo (rf s) w) := by
  have HRF : Hid (rf s = none) := Lib.hid (by
    unfold rf
    rw [if_neg h1, if_neg h2, hL]
    rcases R with _ | ⟨c, _ | ⟨d, _ | ⟨e, _ | ⟨f, r⟩⟩⟩⟩
    · simp [rfL, ha]
    · simp [rfL, ha]
    · simp [rfL, ha]
    · simp at hR
    · simp [rfL, ha])
  have q1 : ((st s).toList == [101, 110, 100]) = false := by rw [st_toList]; exact beq_eq_false_iff_ne.2 h1
  have q2 : ((st s).toList == [104, 105, 115, 116, 111, 114, 121]) = false := by rw [st_toList]; exact beq_eq_false_iff_ne.2 h2
  have qagot : ((st a).toList == [103, 111, 116]) = false := by rw [st_toList, ha]; rfl
  have qawas : ((st a).toList == [119, 97, 115]) = true := by rw [st_toList, ha]; rfl
  have qawrote : ((st a).toList == [119, 114, 111, 116, 101]) = false := by rw [st_toList, ha]; rfl
  have qaread : ((st a).toList == [114, 101, 97, 100]) = false := by rw [st_toList, ha]; rfl
  have qasignal : ((st a).toList == [115, 105, 103, 110, 97, 108]) = false := by rw [st_toList, ha]; rfl
  have qb1 : ((st b).toList == [111, 107]) = true := by rw [st_toList, hb]; rfl
  have HXhR := Lib.hid hR
  clear hR
  have HLL := Lib.hid hL
  clear hL h1 h2 ha hb
  have KC := Lib.hid (fun W => rcut_run s 32 (by omega) W)
  have cv : ((32 : UInt8).toNat : Int) = 32 := rfl
  rw [cv] at KC
  clear cv
  go_enter Tryz.func24, Tryz.ntmps24
  have H0 : Aside (EAt (w.alloc (.cells #[.int .i64 0, .int .u32 0, .int .u8 0, .int .u8 0, .slice none 0 0, .int .i64 0, .bool false] 43)) w.heap.size 0 0 0 0 (.slice none 0 0) 0 false ∧ Stp [] w [] (w.alloc (.cells #[.int .i64 0, .int .u32 0, .int .u8 0, .int .u8 0, .slice none 0 0, .int .i64 0, .bool false] 43)) ∧ (w.alloc (.cells #[.int .i64 0, .int .u32 0, .int .u8 0, .int .u8 0, .slice none 0 0, .int .i64 0, .bool false] 43)).heap.size = w.heap.size + 1) := ⟨heap_alloc_new w _, Stp.alloc [] w _, by simp⟩
  obtain ⟨g0, hg0⟩ : ∃ g0, g0 = w.heap.size := ⟨_, rfl⟩
  rw [← hg0] at H0
  go_upto_region 1 with fail
  rw [← hg0]
  have HG := Lib.hid hg0
  generalize w.alloc (.cells #[.int .i64 0, .int .u32 0, .int .u8 0, .int .u8 0, .slice none 0 0, .int .i64 0, .bool false] 43) = w0 at *
  clear hg0
  go_wp2_with fail
  refine (KC.out _).mono ?_
  rintro _ w1 ⟨v, rfl, ho, s1⟩
  obtain ⟨a, cap, rfl, hno, hpc, hcm, hcell⟩ := ho.form
  rcases a with _ | ad
  · exact absurd (hno rfl).2 (spl_ne 32 s)
  obtain ⟨gp, rfl, hb1, hb2, hpcs⟩ := hcell ad rfl
  obtain ⟨L, hL⟩ : ∃ L, L = spl 32 s := ⟨_, rfl⟩
  obtain ⟨p, hp⟩ : ∃ p, p = L.length := ⟨_, rfl⟩
  rw [← hL] at hpc hpcs ⊢
  rw [← hp] at hpc ⊢
  have HL := Lib.hid (And.intro hL hp)
  have H1 : Aside (EAt w1 g0 0 0 0 0 (.slice none 0 0) 0 false ∧ Stp [] w [] w1 ∧ (∀ j x, L[j]? = some x → w1.cell? ⟨gp, j, none⟩ = some (.string (st x))) ∧ g0 < gp ∧ gp < w1.heap.size) := ⟨H0.out.1.other s1 (by simp), H0.out.2.1.trans s1, hpcs, by have := H0.out.2.2; omega, hb2⟩
  clear H0 s1 ho hno hpcs hcell hb1 hb2 hL hp KC
  go_upto_region 3 with fail
  have H2 : Aside (EAt (w1.alloc (.cells #[.int .i64 0, .int .u32 0, .int .u8 0, .int .u8 0, .slice none 0 0, .int .i64 0, .bool false] 43)) g0 0 0 0 0 (.slice none 0 0) 0 false ∧ EAt (w1.alloc (.cells #[.int .i64 0, .int .u32 0, .int .u8 0, .int .u8 0, .slice none 0 0, .int .i64 0, .bool false] 43)) w1.heap.size 0 0 0 0 (.slice none 0 0) 0 false ∧ Stp [] w [] (w1.alloc (.cells #[.int .i64 0, .int .u32 0, .int .u8 0, .int .u8 0, .slice none 0 0, .int .i64 0, .bool false] 43)) ∧ (∀ j x, L[j]? = some x → (w1.alloc (.cells #[.int .i64 0, .int .u32 0, .int .u8 0, .int .u8 0, .slice none 0 0, .int .i64 0, .bool false] 43)).cell? ⟨gp, j, none⟩ = some (.string (st x))) ∧ (g0 < gp ∧ gp < w1.heap.size ∧ w1.heap.size < (w1.alloc (.cells #[.int .i64 0, .int .u32 0, .int .u8 0, .int .u8 0, .slice none 0 0, .int .i64 0, .bool false] 43)).heap.size)) :=
    ⟨H1.out.1.other (Stp.alloc [] _ _) (by simp), heap_alloc_new w1 _, H1.out.2.1.trans (Stp.alloc [] _ _), fun j x hx => ((Stp.alloc [] w1 (.cells #[.int .i64 0, .int .u32 0, .int .u8 0, .int .u8 0, .slice none 0 0, .int .i64 0, .bool false] 43)).cell (a := ⟨gp, j, none⟩) H1.out.2.2.2.2 (by simp)).trans (H1.out.2.2.1 j x hx), H1.out.2.2.2.1, H1.out.2.2.2.2, by simp⟩
  generalize w1.alloc (.cells #[.int .i64 0, .int .u32 0, .int .u8 0, .int .u8 0, .slice none 0 0, .int .i64 0, .bool false] 43) = w2 at *
  generalize w1.heap.size = g1 at *
  have c0 := H2.out.2.1.c0
  have c1 := H2.out.2.1.c1
  have c2 := H2.out.2.1.c2
  have c3 := H2.out.2.1.c3
  have c4 := H2.out.2.1.c4
  have c5 := H2.out.2.1.c5
  have c6 := H2.out.2.1.c6
  clear H1
  go_upto_region 4 with fail
  have H3 : Aside (T3 w (w2.alloc (.cells #[.int .i64 0, .int .u32 0, .int .u8 0, .int .u8 0, .slice none 0 0, .int .i64 0, .bool false] 43)) g0 g1 w2.heap.size gp L 0 0 0 0 (.slice none 0 0) 0 false) :=
    ⟨H2.out.1.other (Stp.alloc [] _ _) (by simp), H2.out.2.1.other (Stp.alloc [] _ _) (by simp), heap_alloc_new w2 _, H2.out.2.2.1.trans (Stp.alloc [] _ _), fun j x hx => ((Stp.alloc [] w2 (.cells #[.int .i64 0, .int .u32 0, .int .u8 0, .int .u8 0, .slice none 0 0, .int .i64 0, .bool false] 43)).cell (a := ⟨gp, j, none⟩) (Nat.lt_trans H2.out.2.2.2.2.2.1 H2.out.2.2.2.2.2.2) (by simp)).trans (H2.out.2.2.2.1 j x hx), by rw [HG.out]; exact Nat.le_refl _, H2.out.2.2.2.2.1, H2.out.2.2.2.2.2.1, H2.out.2.2.2.2.2.2, by have := H2.out.2.2.2.2; simp; omega⟩
  generalize w2.alloc (.cells #[.int .i64 0, .int .u32 0, .int .u8 0, .int .u8 0, .slice none 0 0, .int .i64 0, .bool false] 43) = w3 at *
  generalize w2.heap.size = g2 at *
  clear H2 c0 c1 c2 c3 c4 c5 c6
  have hLL : L = a :: b :: R := HL.out.1.trans HLL.out
  have d0 : w3.cell? ⟨gp, 0, none⟩ = some (.string (st a)) := H3.out.p 0 a (by rw [hLL]; rfl)
  have d1 : w3.cell? ⟨gp, 1, none⟩ = some (.string (st b)) := H3.out.p 1 b (by rw [hLL]; rfl)
  have hpR : p = R.length + 2 := by rw [HL.out.2, hLL]; rfl
  have hp2 : ¬ (p : Int) < 2 := by omega
  have hp0 : (0 : Int) < (p : Int) := by omega
  have hp1 : (1 : Int) < (p : Int) := by omega
  have HR := Lib.hid (And.intro hLL hpR)
  clear hLL hpR
  obtain ⟨q, hq⟩ : ∃ q, p = q + 1 := ⟨p - 1, by have := HR.out.2; omega⟩
  obtain ⟨z, hz⟩ : ∃ z, L[q]? = some z := ⟨L[q]'(by have := HL.out.2; omega), List.getElem?_eq_getElem _⟩
  have hzl : z.length ≤ 2000 := by have h1 := spl_mem_len 32 s z (by rw [← HL.out.1]; exact List.mem_of_getElem? hz); omega
  have KN := Lib.hid (fun W => rnum18_run z (by omega) W)
  obtain ⟨nz, hnz⟩ : ∃ nz, nz = rz (rnum 10 18 z) := ⟨_, rfl⟩
  rw [← hnz] at KN
  have HN := Lib.hid (And.intro hz (And.intro hnz hq))
  have hsub : IntKind.i64.wrap ((p : Int) - 1) = (q : Int) := by rw [IntKind.wrap_i64]; have := hcm; simp [maxLen] at this; omega
  have hq0 : (0 : Int) ≤ (q : Int) := by omega
  have hqp : (q : Int) < (p : Int) := by omega
  clear hz hnz hq hzl
  have k0 := H3.out.e.c6
  have k1 := H3.out.e.fz 6
  go_upto_region 13 with fail
  have H4 : Aside (T3 w (w3.setCell ⟨g1, 6, none⟩ (.bool true)) g0 g1 g2 gp L 0 0 0 0 (.slice none 0 0) 0 true) := H3.out.act (stp_one _ _ _ _) (H3.out.e.setO true)
  generalize w3.setCell ⟨g1, 6, none⟩ (.bool true) = w4 at *
  clear H3 k0 k1 d0 d1
  have d2 : w4.cell? ⟨gp, q, none⟩ = some (.string (st z)) := H4.out.p q z HN.out.1
  have d0 : w4.cell? ⟨gp, 0, none⟩ = some (.string (st a)) := H4.out.p 0 a (by rw [HR.out.1]; rfl)
  go_wp2_with fail
  refine (KN.out _).mono ?_
  rintro _ w4 ⟨rfl, rfl⟩
  clear KN d2
  have hpe : ((p : Int) != 5) = true := by
    rw [bne_iff_ne]
    have h1 := HR.out.2
    have h2 := HXhR.out
    omega
  go_upto_region 20 with fail
  have c0 := H4.out.r.c0
  have c1 := H4.out.r.c1
  have c2 := H4.out.r.c2
  have c3 := H4.out.r.c3
  have c4 := H4.out.r.c4
  have c5 := H4.out.r.c5
  have c6 := H4.out.r.c6
  have e0 := H4.out.z.c0
  have e1 := H4.out.z.c1
  have e2 := H4.out.z.c2
  have e3 := H4.out.z.c3
  have e4 := H4.out.z.c4
  have e5 := H4.out.z.c5
  have e6 := H4.out.z.c6
  have z0 := H4.out.r.fz 0
  have z1 := H4.out.r.fz 1
  have z2 := H4.out.r.fz 2
  have z3 := H4.out.r.fz 3
  have z4 := H4.out.r.fz 4
  have z5 := H4.out.r.fz 5
  have z6 := H4.out.r.fz 6
  go_wp2
  refine bodyPost_ret (res_eff2 rfl _ rfl (H4.out.r.set7 0 0 0 0 (.slice none 0 0) 0 false)) rfl ?_
  refine ⟨(H4.out.stp.fresh (stp7 _ _ _ _ _ _ _ _ _) (by have := H4.out.lo; simp; omega)).none, ?_⟩
  rw [HRF.out]
  rfl

set_option maxHeartbeats 2000000 in
set_option maxRecDepth 100000 in
theorem rd_wrotexf (s : List UInt8) (hs : s.length ≤ 2000) (w : World) (h1 : s ≠ [101, 110, 100]) (h2 : s ≠ [104, 105, 115, 116, 111, 114, 121]) (a b : List UInt8) (R : List (List UInt8)) (hL : spl 32 s = a :: b :: R) (ha : a = [119, 114, 111, 116, 101]) (hb : b = [102, 97, 105, 108]) (hR : R.length ≠ 2) : Calls Tryz.prog 24 #[.string (st s)] w (EffTo (rf s) w) := by
  have HRF : Hid (rf s = none) := Lib.hid (by
    unfold rf
    rw [if_neg h1, if_neg h2, hL]
    rcases R with _ | ⟨c, _ | ⟨d, _ | ⟨e, _ | ⟨f, r⟩⟩⟩⟩
    · simp [rfL, ha]
    · simp [rfL, ha]
    · simp at hR
    all_goals simp [rfL, ha])
  have q1 : ((st s).toList == [101, 110, 100]) = false := by rw [st_toList]; exact beq_eq_false_iff_ne.2 h1
  have q2 : ((st s).toList == [104, 105, 115, 116, 111, 114, 121]) = false := by rw [st_toList]; exact beq_eq_false_iff_ne.2 h2
  have qagot : ((st a).toList == [103, 111, 116]) = false := by rw [st_toList, ha]; rfl
  have qawas : ((st a).toList == [119, 97, 115]) = false := by rw [st_toList, ha]; rfl
  have qawrote : ((st a).toList == [119, 114, 111, 116, 101]) = true := by rw [st_toList, ha]; rfl
  have qaread : ((st a).toList == [114, 101, 97, 100]) = false := by rw [st_toList, ha]; rfl
  have qasignal : ((st a).toList == [115, 105, 103, 110, 97, 108]) = false := by rw [st_toList, ha]; rfl
  have qb1 : ((st b).toList == [111, 107]) = false := by rw [st_toList, hb]; rfl
  have qb2 : ((st b).toList == [102, 97, 105, 108]) = true := by rw [st_toList, hb]; rfl
  have HXhR := Lib.hid hR
  clear hR
  have HLL := Lib.hid hL
  clear hL h1 h2 ha hb
  have KC := Lib.hid (fun W => rcut_run s 32 (by omega) W)
  have cv : ((32 : UInt8).toNat : Int) = 32 := rfl
  rw [cv] at KC
  clear cv
  go_enter Tryz.func24, Tryz.ntmps24
  have H0 : Aside (EAt (w.alloc (.cells #[.int .i64 0, .int .u32 0, .int .u8 0, .int .u8 0, .slice none 0 0, .int .i64 0, .bool false] 43)) w.heap.size 0 0 0 0 (.slice none 0 0) 0 false ∧ Stp [] w [] (w.alloc (.cells #[.int .i64 0, .int .u32 0, .int .u8 0, .int .u8 0, .slice none 0 0, .int .i64 0, .bool false] 43)) ∧ (w.alloc (.cells #[.int .i64 0, .int .u32 0, .int .u8 0, .int .u8 0, .slice none 0 0, .int .i64 0, .bool false] 43)).heap.size = w.heap.size + 1) := ⟨heap_alloc_new w _, Stp.alloc [] w _, by simp⟩
  obtain ⟨g0, hg0⟩ : ∃ g0, g0 = w.heap.size := ⟨_, rfl⟩
  rw [← hg0] at H0
  go_upto_region 1 with fail
  rw [← hg0]
  have HG := Lib.hid hg0
  generalize w.alloc (.cells #[.int .i64 0, .int .u32 0, .int .u8 0, .int .u8 0, .slice none 0 0, .int .i64 0, .bool false] 43) = w0 at *
  clear hg0
  go_wp2_with fail
  refine (KC.out _).mono ?_
  rintro _ w1 ⟨v, rfl, ho, s1⟩
  obtain ⟨a, cap, rfl, hno, hpc, hcm, hcell⟩ := ho.form
  rcases a with _ | ad
  · exact absurd (hno rfl).2 (spl_ne 32 s)
  obtain ⟨gp, rfl, hb1, hb2, hpcs⟩ := hcell ad rfl
  obtain ⟨L, hL⟩ : ∃ L, L = spl 32 s := ⟨_, rfl⟩
  obtain ⟨p, hp⟩ : ∃ p, p = L.length := ⟨_, rfl⟩
  rw [← hL] at hpc hpcs ⊢
  rw [← hp] at hpc ⊢
  have HL := Lib.hid (And.intro hL hp)
  have H1 : Aside (EAt w1 g0 0 0 0 0 (.slice none 0 0) 0 false ∧ Stp [] w [] w1 ∧ (∀ j x, L[j]? = some x → w1.cell? ⟨gp, j, none⟩ = some (.string (st x))) ∧ g0 < gp ∧ gp < w1.heap.size) := ⟨H0.out.1.other s1 (by simp), H0.out.2.1.trans s1, hpcs, by have := H0.out.2.2; omega, hb2⟩
  clear H0 s1 ho hno hpcs hcell hb1 hb2 hL hp KC
  go_upto_region 3 with fail
  have H2 : Aside (EAt (w1.alloc (.cells #[.int .i64 0, .int .u32 0, .int .u8 0, .int .u8 0, .slice none 0 0, .int .i64 0, .bool false] 43)) g0 0 0 0 0 (.slice none 0 0) 0 false ∧ EAt (w1.alloc (.cells #[.int .i64 0, .int .u32 0, .int .u8 0, .int .u8 0, .slice none 0 0, .int .i64 0, .bool false] 43)) w1.heap.size 0 0 0 0 (.slice none 0 0) 0 false ∧ Stp [] w [] (w1.alloc (.cells #[.int .i64 0, .int .u32 0, .int .u8 0, .int .u8 0, .slice none 0 0, .int .i64 0, .bool false] 43)) ∧ (∀ j x, L[j]? = some x → (w1.alloc (.cells #[.int .i64 0, .int .u32 0, .int .u8 0, .int .u8 0, .slice none 0 0, .int .i64 0, .bool false] 43)).cell? ⟨gp, j, none⟩ = some (.string (st x))) ∧ (g0 < gp ∧ gp < w1.heap.size ∧ w1.heap.size < (w1.alloc (.cells #[.int .i64 0, .int .u32 0, .int .u8 0, .int .u8 0, .slice none 0 0, .int .i64 0, .bool false] 43)).heap.size)) :=
    ⟨H1.out.1.other (Stp.alloc [] _ _) (by simp), heap_alloc_new w1 _, H1.out.2.1.trans (Stp.alloc [] _ _), fun j x hx => ((Stp.alloc [] w1 (.cells #[.int .i64 0, .int .u32 0, .int .u8 0, .int .u8 0, .slice none 0 0, .int .i64 0, .bool false] 43)).cell (a := ⟨gp, j, none⟩) H1.out.2.2.2.2 (by simp)).trans (H1.out.2.2.1 j x hx), H1.out.2.2.2.1, H1.out.2.2.2.2, by simp⟩
  generalize w1.alloc (.cells #[.int .i64 0, .int .u32 0, .int .u8 0, .int .u8 0, .slice none 0 0, .int .i64 0, .bool false] 43) = w2 at *
  generalize w1.heap.size = g1 at *
  have c0 := H2.out.2.1.c0
  have c1 := H2.out.2.1.c1
  have c2 := H2.out.2.1.c2
  have c3 := H2.out.2.1.c3
  have c4 := H2.out.2.1.c4
  have c5 := H2.out.2.1.c5
  have c6 := H2.out.2.1.c6
  clear H1
  go_upto_region 4 with fail
  have H3 : Aside (T3 w (w2.alloc (.cells #[.int .i64 0, .int .u32 0, .int .u8 0, .int .u8 0, .slice none 0 0, .int .i64 0, .bool false] 43)) g0 g1 w2.heap.size gp L 0 0 0 0 (.slice none 0 0) 0 false) :=
    ⟨H2.out.1.other (Stp.alloc [] _ _) (by simp), H2.out.2.1.other (Stp.alloc [] _ _) (by simp), heap_alloc_new w2 _, H2.out.2.2.1.trans (Stp.alloc [] _ _), fun j x hx => ((Stp.alloc [] w2 (.cells #[.int .i64 0, .int .u32 0, .int .u8 0, .int .u8 0, .slice none 0 0, .int .i64 0, .bool false] 43)).cell (a := ⟨gp, j, none⟩) (Nat.lt_trans H2.out.2.2.2.2.2.1 H2.out.2.2.2.2.2.2) (by simp)).trans (H2.out.2.2.2.1 j x hx), by rw [HG.out]; exact Nat.le_refl _, H2.out.2.2.2.2.1, H2.out.2.2.2.2.2.1, H2.out.2.2.2.2.2.2, by have := H2.out.2.2.2.2; simp; omega⟩
  generalize w2.alloc (.cells #[.int .i64 0, .int .u32 0, .int .u8 0, .int .u8 0, .slice none 0 0, .int .i64 0, .bool false] 43) = w3 at *
  generalize w2.heap.size = g2 at *
  clear H2 c0 c1 c2 c3 c4 c5 c6
  have hLL : L = a :: b :: R := HL.out.1.trans HLL.out
  have d0 : w3.cell? ⟨gp, 0, none⟩ = some (.string (st a)) := H3.out.p 0 a (by rw [hLL]; rfl)
  have d1 : w3.cell? ⟨gp, 1, none⟩ = some (.string (st b)) := H3.out.p 1 b (by rw [hLL]; rfl)
  have hpR : p = R.length + 2 := by rw [HL.out.2, hLL]; rfl
  have hp2 : ¬ (p : Int) < 2 := by omega
  have hp0 : (0 : Int) < (p : Int) := by omega
  have hp1 : (1 : Int) < (p : Int) := by omega
  have HR := Lib.hid (And.intro hLL hpR)
  clear hLL hpR
  obtain ⟨q, hq⟩ : ∃ q, p = q + 1 := ⟨p - 1, by have := HR.out.2; omega⟩
  obtain ⟨z, hz⟩ : ∃ z, L[q]? = some z := ⟨L[q]'(by have := HL.out.2; omega), List.getElem?_eq_getElem _⟩
  have hzl : z.length ≤ 2000 := by have h1 := spl_mem_len 32 s z (by rw [← HL.out.1]; exact List.mem_of_getElem? hz); omega
  have KN := Lib.hid (fun W => rnum18_run z (by omega) W)
  obtain ⟨nz, hnz⟩ : ∃ nz, nz = rz (rnum 10 18 z) := ⟨_, rfl⟩
  rw [← hnz] at KN
  have HN := Lib.hid (And.intro hz (And.intro hnz hq))
  have hsub : IntKind.i64.wrap ((p : Int) - 1) = (q : Int) := by rw [IntKind.wrap_i64]; have := hcm; simp [maxLen] at this; omega
  have hq0 : (0 : Int) ≤ (q : Int) := by omega
  have hqp : (q : Int) < (p : Int) := by omega
  clear hz hnz hq hzl
  have k0 := H3.out.e.c6
  have k1 := H3.out.e.fz 6
  go_upto_region 13 with fail
  have H4 : Aside (T3 w (w3.setCell ⟨g1, 6, none⟩ (.bool false)) g0 g1 g2 gp L 0 0 0 0 (.slice none 0 0) 0 false) := H3.out.act (stp_one _ _ _ _) (H3.out.e.setO false)
  generalize w3.setCell ⟨g1, 6, none⟩ (.bool false) = w4 at *
  clear H3 k0 k1 d0 d1
  have d2 : w4.cell? ⟨gp, q, none⟩ = some (.string (st z)) := H4.out.p q z HN.out.1
  have d0 : w4.cell? ⟨gp, 0, none⟩ = some (.string (st a)) := H4.out.p 0 a (by rw [HR.out.1]; rfl)
  go_wp2_with fail
  refine (KN.out _).mono ?_
  rintro _ w4 ⟨rfl, rfl⟩
  clear KN d2
  have hpe : ((p : Int) != 4) = true := by
    rw [bne_iff_ne]
    have h1 := HR.out.2
    have h2 := HXhR.out
    omega
  go_upto_region 28 with fail
  have c0 := H4.out.r.c0
  have c1 := H4.out.r.c1
  have c2 := H4.out.r.c2
  have c3 := H4.out.r.c3
  have c4 := H4.out.r.c4
  have c5 := H4.out.r.c5
  have c6 := H4.out.r.c6
  have e0 := H4.out.z.c0
  have e1 := H4.out.z.c1
  have e2 := H4.out.z.c2
  have e3 := H4.out.z.c3
  have e4 := H4.out.z.c4
  have e5 := H4.out.z.c5
  have e6 := H4.out.z.c6
  have z0 := H4.out.r.fz 0
  have z1 := H4.out.r.fz 1
  have z2 := H4.out.r.fz 2
  have z3 := H4.out.r.fz 3
  have z4 := H4.out.r.fz 4
  have z5 := H4.out.r.fz 5
  have z6 := H4.out.r.fz 6
  go_wp2
  refine bodyPost_ret (res_eff2 rfl _ rfl (H4.out.r.set7 0 0 0 0 (.slice none 0 0) 0 false)) rfl ?_
  refine ⟨(H4.out.stp.fresh (stp7 _ _ _ _ _ _ _ _ _) (by have := H4.out.lo; simp; omega)).none, ?_⟩
  rw [HRF.out]
  rfl

set_option maxHeartbeats 2000000 in
set_option maxRecDepth 100000 in
theorem rd_gotxf (s : List UInt8) (hs : s.length ≤ 2000) (w : World) (h1 : s ≠ [101, 110, 100]) (h2 : s ≠ [104, 105, 115, 116, 111, 114, 121]) (a b : List UInt8) (R : List (List UInt8)) (hL : spl 32 s = a :: b :: R) (ha : a = [103, 111, 116]) (hb : b = [102, 97, 105, 108]) (hR : R.length ≠ 3) : Calls Tryz.prog 24 #[.string (st s)] w (EffTo (rf s) w) := by
  have HRF : Hid (rf s = none) := Lib.hid (by
    unfold rf
    rw [if_neg h1, if_neg h2, hL]
    rcases R with _ | ⟨c, _ | ⟨d, _ | ⟨e, _ | ⟨f, r⟩⟩⟩⟩
    · simp [rfL, ha]
    · simp [rfL, ha]
    · simp [rfL, ha]
    · simp at hR
    · simp [rfL, ha])
  have q1 : ((st s).toList == [101, 110, 100]) = false := by rw [st_toList]; exact beq_eq_false_iff_ne.2 h1
  have q2 : ((st s).toList == [104, 105, 115, 116, 111, 114, 121]) = false := by rw [st_toList]; exact beq_eq_false_iff_ne.2 h2
  have qagot : ((st a).toList == [103, 111, 116]) = true := by rw [st_toList, ha]; rfl
  have qawas : ((st a).toList == [119, 97, 115]) = false := by rw [st_toList, ha]; rfl
  have qawrote : ((st a).toList == [119, 114, 111, 116, 101]) = false := by rw [st_toList, ha]; rfl
  have qaread : ((st a).toList == [114, 101, 97, 100]) = false := by rw [st_toList, ha]; rfl
  have qasignal : ((st a).toList == [115, 105, 103, 110, 97, 108]) = false := by rw [st_toList, ha]; rfl
  have qb1 : ((st b).toList == [111, 107]) = false := by rw [st_toList, hb]; rfl
  have qb2 : ((st b).toList == [102, 97, 105, 108]) = true := by rw [st_toList, hb]; rfl
  have HXhR := Lib.hid hR
  clear hR
  have HLL := Lib.hid hL
  clear hL h1 h2 ha hb
  have KC := Lib.hid (fun W => rcut_run s 32 (by omega) W)
  have cv : ((32 : UInt8).toNat : Int) = 32 := rfl
  rw [cv] at KC
  clear cv
  go_enter Tryz.func24, Tryz.ntmps24
  have H0 : Aside (EAt (w.alloc (.cells #[.int .i64 0, .int .u32 0, .int .u8 0, .int .u8 0, .slice none 0 0, .int .i64 0, .bool false] 43)) w.heap.size 0 0 0 0 (.slice none 0 0) 0 false ∧ Stp [] w [] (w.alloc (.cells #[.int .i64 0, .int .u32 0, .int .u8 0, .int .u8 0, .slice none 0 0, .int .i64 0, .bool false] 43)) ∧ (w.alloc (.cells #[.int .i64 0, .int .u32 0, .int .u8 0, .int .u8 0, .slice none 0 0, .int .i64 0, .bool false] 43)).heap.size = w.heap.size + 1) := ⟨heap_alloc_new w _, Stp.alloc [] w _, by simp⟩
  obtain ⟨g0, hg0⟩ : ∃ g0, g0 = w.heap.size := ⟨_, rfl⟩
  rw [← hg0] at H0
  go_upto_region 1 with fail
  rw [← hg0]
  have HG := Lib.hid hg0
  generalize w.alloc (.cells #[.int .i64 0, .int .u32 0, .int .u8 0, .int .u8 0, .slice none 0 0, .int .i64 0, .bool false] 43) = w0 at *
  clear hg0
  go_wp2_with fail
  refine (KC.out _).mono ?_
  rintro _ w1 ⟨v, rfl, ho, s1⟩
  obtain ⟨a, cap, rfl, hno, hpc, hcm, hcell⟩ := ho.form
  rcases a with _ | ad
  · exact absurd (hno rfl).2 (spl_ne 32 s)
  obtain ⟨gp, rfl, hb1, hb2, hpcs⟩ := hcell ad rfl
  obtain ⟨L, hL⟩ : ∃ L, L = spl 32 s := ⟨_, rfl⟩
  obtain ⟨p, hp⟩ : ∃ p, p = L.length := ⟨_, rfl⟩
  rw [← hL] at hpc hpcs ⊢
  rw [← hp] at hpc ⊢
  have HL := Lib.hid (And.intro hL hp)
  have H1 : Aside (EAt w1 g0 0 0 0 0 (.slice none 0 0) 0 false ∧ Stp [] w [] w1 ∧ (∀ j x, L[j]? = some x → w1.cell? ⟨gp, j, none⟩ = some (.string (st x))) ∧ g0 < gp ∧ gp < w1.heap.size) := ⟨H0.out.1.other s1 (by simp), H0.out.2.1.trans s1, hpcs, by have := H0.out.2.2; omega, hb2⟩
  clear H0 s1 ho hno hpcs hcell hb1 hb2 hL hp KC
  go_upto_region 3 with fail
  have H2 : Aside (EAt (w1.alloc (.cells #[.int .i64 0, .int .u32 0, .int .u8 0, .int .u8 0, .slice none 0 0, .int .i64 0, .bool false] 43)) g0 0 0 0 0 (.slice none 0 0) 0 false ∧ EAt (w1.alloc (.cells #[.int .i64 0, .int .u32 0, .int .u8 0, .int .u8 0, .slice none 0 0, .int .i64 0, .bool false] 43)) w1.heap.size 0 0 0 0 (.slice none 0 0) 0 false ∧ Stp [] w [] (w1.alloc (.cells #[.int .i64 0, .int .u32 0, .int .u8 0, .int .u8 0, .slice none 0 0, .int .i64 0, .bool false] 43)) ∧ (∀ j x, L[j]? = some x → (w1.alloc (.cells #[.int .i64 0, .int .u32 0, .int .u8 0, .int .u8 0, .slice none 0 0, .int .i64 0, .bool false] 43)).cell? ⟨gp, j, none⟩ = some (.string (st x))) ∧ (g0 < gp ∧ gp < w1.heap.size ∧ w1.heap.size < (w1.alloc (.cells #[.int .i64 0, .int .u32 0, .int .u8 0, .int .u8 0, .slice none 0 0, .int .i64 0, .bool false] 43)).heap.size)) :=
    ⟨H1.out.1.other (Stp.alloc [] _ _) (by simp), heap_alloc_new w1 _, H1.out.2.1.trans (Stp.alloc [] _ _), fun j x hx => ((Stp.alloc [] w1 (.cells #[.int .i64 0, .int .u32 0, .int .u8 0, .int .u8 0, .slice none 0 0, .int .i64 0, .bool false] 43)).cell (a := ⟨gp, j, none⟩) H1.out.2.2.2.2 (by simp)).trans (H1.out.2.2.1 j x hx), H1.out.2.2.2.1, H1.out.2.2.2.2, by simp⟩
  generalize w1.alloc (.cells #[.int .i64 0, .int .u32 0, .int .u8 0, .int .u8 0, .slice none 0 0, .int .i64 0, .bool false] 43) = w2 at *
  generalize w1.heap.size = g1 at *
  have c0 := H2.out.2.1.c0
  have c1 := H2.out.2.1.c1
  have c2 := H2.out.2.1.c2
  have c3 := H2.out.2.1.c3
  have c4 := H2.out.2.1.c4
  have c5 := H2.out.2.1.c5
  have c6 := H2.out.2.1.c6
  clear H1
  go_upto_region 4 with fail
  have H3 : Aside (T3 w (w2.alloc (.cells #[.int .i64 0, .int .u32 0, .int .u8 0, .int .u8 0, .slice none 0 0, .int .i64 0, .bool false] 43)) g0 g1 w2.heap.size gp L 0 0 0 0 (.slice none 0 0) 0 false) :=
    ⟨H2.out.1.other (Stp.alloc [] _ _) (by simp), H2.out.2.1.other (Stp.alloc [] _ _) (by simp), heap_alloc_new w2 _, H2.out.2.2.1.trans (Stp.alloc [] _ _), fun j x hx => ((Stp.alloc [] w2 (.cells #[.int .i64 0, .int .u32 0, .int .u8 0, .int .u8 0, .slice none 0 0, .int .i64 0, .bool false] 43)).cell (a := ⟨gp, j, none⟩) (Nat.lt_trans H2.out.2.2.2.2.2.1 H2.out.2.2.2.2.2.2) (by simp)).trans (H2.out.2.2.2.1 j x hx), by rw [HG.out]; exact Nat.le_refl _, H2.out.2.2.2.2.1, H2.out.2.2.2.2.2.1, H2.out.2.2.2.2.2.2, by have := H2.out.2.2.2.2; simp; omega⟩
  generalize w2.alloc (.cells #[.int .i64 0, .int .u32 0, .int .u8 0, .int .u8 0, .slice none 0 0, .int .i64 0, .bool false] 43) = w3 at *
  generalize w2.heap.size = g2 at *
  clear H2 c0 c1 c2 c3 c4 c5 c6
  have hLL : L = a :: b :: R := HL.out.1.trans HLL.out
  have d0 : w3.cell? ⟨gp, 0, none⟩ = some (.string (st a)) := H3.out.p 0 a (by rw [hLL]; rfl)
  have d1 : w3.cell? ⟨gp, 1, none⟩ = some (.string (st b)) := H3.out.p 1 b (by rw [hLL]; rfl)
  have hpR : p = R.length + 2 := by rw [HL.out.2, hLL]; rfl
  have hp2 : ¬ (p : Int) < 2 := by omega
  have hp0 : (0 : Int) < (p : Int) := by omega
  have hp1 : (1 : Int) < (p : Int) := by omega
  have HR := Lib.hid (And.intro hLL hpR)
  clear hLL hpR
  obtain ⟨q, hq⟩ : ∃ q, p = q + 1 := ⟨p - 1, by have := HR.out.2; omega⟩
  obtain ⟨z, hz⟩ : ∃ z, L[q]? = some z := ⟨L[q]'(by have := HL.out.2; omega), List.getElem?_eq_getElem _⟩
  have hzl : z.length ≤ 2000 := by have h1 := spl_mem_len 32 s z (by rw [← HL.out.1]; exact List.mem_of_getElem? hz); omega
  have KN := Lib.hid (fun W => rnum18_run z (by omega) W)
  obtain ⟨nz, hnz⟩ : ∃ nz, nz = rz (rnum 10 18 z) := ⟨_, rfl⟩
  rw [← hnz] at KN
  have HN := Lib.hid (And.intro hz (And.intro hnz hq))
  have hsub : IntKind.i64.wrap ((p : Int) - 1) = (q : Int) := by rw [IntKind.wrap_i64]; have := hcm; simp [maxLen] at this; omega
  have hq0 : (0 : Int) ≤ (q : Int) := by omega
  have hqp : (q : Int) < (p : Int) := by omega
  clear hz hnz hq hzl
  have k0 := H3.out.e.c6
  have k1 := H3.out.e.fz 6
  go_upto_region 13 with fail
  have H4 : Aside (T3 w (w3.setCell ⟨g1, 6, none⟩ (.bool false)) g0 g1 g2 gp L 0 0 0 0 (.slice none 0 0) 0 false) := H3.out.act (stp_one _ _ _ _) (H3.out.e.setO false)
  generalize w3.setCell ⟨g1, 6, none⟩ (.bool false) = w4 at *
  clear H3 k0 k1 d0 d1
  have d2 : w4.cell? ⟨gp, q, none⟩ = some (.string (st z)) := H4.out.p q z HN.out.1
  have d0 : w4.cell? ⟨gp, 0, none⟩ = some (.string (st a)) := H4.out.p 0 a (by rw [HR.out.1]; rfl)
  go_wp2_with fail
  refine (KN.out _).mono ?_
  rintro _ w4 ⟨rfl, rfl⟩
  clear KN d2
  have hpe : ((p : Int) != 5) = true := by
    rw [bne_iff_ne]
    have h1 := HR.out.2
    have h2 := HXhR.out
    omega
  go_upto_region 20 with fail
  have c0 := H4.out.r.c0
  have c1 := H4.out.r.c1
  have c2 := H4.out.r.c2
  have c3 := H4.out.r.c3
  have c4 := H4.out.r.c4
  have c5 := H4.out.r.c5
  have c6 := H4.out.r.c6
  have e0 := H4.out.z.c0
  have e1 := H4.out.z.c1
  have e2 := H4.out.z.c2
  have e3 := H4.out.z.c3
  have e4 := H4.out.z.c4
  have e5 := H4.out.z.c5
  have e6 := H4.out.z.c6
  have z0 := H4.out.r.fz 0
  have z1 := H4.out.r.fz 1
  have z2 := H4.out.r.fz 2
  have z3 := H4.out.r.fz 3
  have z4 := H4.out.r.fz 4
  have z5 := H4.out.r.fz 5
  have z6 := H4.out.r.fz 6
  go_wp2
  refine bodyPost_ret (res_eff2 rfl _ rfl (H4.out.r.set7 0 0 0 0 (.slice none 0 0) 0 false)) rfl ?_
  refine ⟨(H4.out.stp.fresh (stp7 _ _ _ _ _ _ _ _ _) (by have := H4.out.lo; simp; omega)).none, ?_⟩
  rw [HRF.out]
  rfl

set_option maxHeartbeats 2000000 in
set_option maxRecDepth 100000 in
theorem rd_wasxf (s : List UInt8) (hs : s.length ≤ 2000) (w : World) (h1 : s ≠ [101, 110, 100]) (h2 : s ≠ [104, 105, 115, 116, 111, 114, 121]) (a b : List UInt8) (R : List (List UInt8)) (hL : spl 32 s = a :: b :: R) (ha : a = [119, 97, 115]) (hb : b = [102, 97, 105, 108]) (hR : R.length ≠ 3) : Calls Tryz.prog 24 #[.string (st s)] w (EffTo (rf s) w) := by
  have HRF : Hid (rf s = none) := Lib.hid (by
    unfold rf
    rw [if_neg h1, if_neg h2, hL]
    rcases R with _ | ⟨c, _ | ⟨d, _ | ⟨e, _ | ⟨f, r⟩⟩⟩⟩
    · simp [rfL, ha]
    · simp [rfL, ha]
    · simp [rfL, ha]
    · simp at hR
    · simp [rfL, ha])
  have q1 : ((st s).toList == [101, 110, 100]) = false := by rw [st_toList]; exact beq_eq_false_iff_ne.2 h1
  have q2 : ((st s).toList == [104, 105, 115, 116, 111, 114, 121]) = false := by rw [st_toList]; exact beq_eq_false_iff_ne.2 h2
  have qagot : ((st a).toList == [103, 111, 116]) = false := by rw [st_toList, ha]; rfl
  have qawas : ((st a).toList == [119, 97, 115]) = true := by rw [st_toList, ha]; rfl
  have qawrote : ((st a).toList == [119, 114, 111, 116, 101]) = false := by rw [st_toList, ha]; rfl
  have qaread : ((st a).toList == [114, 101, 97, 100]) = false := by rw [st_toList, ha]; rfl
  have qasignal : ((st a).toList == [115, 105, 103, 110, 97, 108]) = false := by rw [st_toList, ha]; rfl
  have qb1 : ((st b).toList == [111, 107]) = false := by rw [st_toList, hb]; rfl
  have qb2 : ((st b).toList == [102, 97, 105, 108]) = true := by rw [st_toList, hb]; rfl
  have HXhR := Lib.hid hR
  clear hR
  have HLL := Lib.hid hL
  clear hL h1 h2 ha hb
  have KC := Lib.hid (fun W => rcut_run s 32 (by omega) W)
  have cv : ((32 : UInt8).toNat : Int) = 32 := rfl
  rw [cv] at KC
  clear cv
  go_enter Tryz.func24, Tryz.ntmps24
  have H0 : Aside (EAt (w.alloc (.cells #[.int .i64 0, .int .u32 0, .int .u8 0, .int .u8 0, .slice none 0 0, .int .i64 0, .bool false] 43)) w.heap.size 0 0 0 0 (.slice none 0 0) 0 false ∧ Stp [] w [] (w.alloc (.cells #[.int .i64 0, .int .u32 0, .int .u8 0, .int .u8 0, .slice none 0 0, .int .i64 0, .bool false] 43)) ∧ (w.alloc (.cells #[.int .i64 0, .int .u32 0, .int .u8 0, .int .u8 0, .slice none 0 0, .int .i64 0, .bool false] 43)).heap.size = w.heap.size + 1) := ⟨heap_alloc_new w _, Stp.alloc [] w _, by simp⟩
  obtain ⟨g0, hg0⟩ : ∃ g0, g0 = w.heap.size := ⟨_, rfl⟩
  rw [← hg0] at H0
  go_upto_region 1 with fail
  rw [← hg0]
  have HG := Lib.hid hg0
  generalize w.alloc (.cells #[.int .i64 0, .int .u32 0, .int .u8 0, .int .u8 0, .slice none 0 0, .int .i64 0, .bool false] 43) = w0 at *
  clear hg0
  go_wp2_with fail
  refine (KC.out _).mono ?_
  rintro _ w1 ⟨v, rfl, ho, s1⟩
  obtain ⟨a, cap, rfl, hno, hpc, hcm, hcell⟩ := ho.form
  rcases a with _ | ad
  · exact absurd (hno rfl).2 (spl_ne 32 s)
  obtain ⟨gp, rfl, hb1, hb2, hpcs⟩ := hcell ad rfl
  obtain ⟨L, hL⟩ : ∃ L, L = spl 32 s := ⟨_, rfl⟩
  obtain ⟨p, hp⟩ : ∃ p, p = L.length := ⟨_, rfl⟩
  rw [← hL] at hpc hpcs ⊢
  rw [← hp] at hpc ⊢
  have HL := Lib.hid (And.intro hL hp)
  have H1 : Aside (EAt w1 g0 0 0 0 0 (.slice none 0 0) 0 false ∧ Stp [] w [] w1 ∧ (∀ j x, L[j]? = some x → w1.cell? ⟨gp, j, none⟩ = some (.string (st x))) ∧ g0 < gp ∧ gp < w1.heap.size) := ⟨H0.out.1.other s1 (by simp), H0.out.2.1.trans s1, hpcs, by have := H0.out.2.2; omega, hb2⟩
  clear H0 s1 ho hno hpcs hcell hb1 hb2 hL hp KC
  go_upto_region 3 with fail
  have H2 : Aside (EAt (w1.alloc (.cells #[.int .i64 0, .int .u32 0, .int .u8 0, .int .u8 0, .slice none 0 0, .int .i64 0, .bool false] 43)) g0 0 0 0 0 (.slice none 0 0) 0 false ∧ EAt (w1.alloc (.cells #[.int .i64 0, .int .u32 0, .int .u8 0, .int .u8 0, .slice none 0 0, .int .i64 0, .bool false] 43)) w1.heap.size 0 0 0 0 (.slice none 0 0) 0 false ∧ Stp [] w [] (w1.alloc (.cells #[.int .i64 0, .int .u32 0, .int .u8 0, .int .u8 0, .slice none 0 0, .int .i64 0, .bool false] 43)) ∧ (∀ j x, L[j]? = some x → (w1.alloc (.cells #[.int .i64 0, .int .u32 0, .int .u8 0, .int .u8 0, .slice none 0 0, .int .i64 0, .bool false] 43)).cell? ⟨gp, j, none⟩ = some (.string (st x))) ∧ (g0 < gp ∧ gp < w1.heap.size ∧ w1.heap.size < (w1.alloc (.cells #[.int .i64 0, .int .u32 0, .int .u8 0, .int .u8 0, .slice none 0 0, .int .i64 0, .bool false] 43)).heap.size)) :=
    ⟨H1.out.1.other (Stp.alloc [] _ _) (by simp), heap_alloc_new w1 _, H1.out.2.1.trans (Stp.alloc [] _ _), fun j x hx => ((Stp.alloc [] w1 (.cells #[.int .i64 0, .int .u32 0, .int .u8 0, .int .u8 0, .slice none 0 0, .int .i64 0, .bool false] 43)).cell (a := ⟨gp, j, none⟩) H1.out.2.2.2.2 (by simp)).trans (H1.out.2.2.1 j x hx), H1.out.2.2.2.1, H1.out.2.2.2.2, by simp⟩
  generalize w1.alloc (.cells #[.int .i64 0, .int .u32 0, .int .u8 0, .int .u8 0, .slice none 0 0, .int .i64 0, .bool false] 43) = w2 at *
  generalize w1.heap.size = g1 at *
  have c0 := H2.out.2.1.c0
  have c1 := H2.out.2.1.c1
  have c2 := H2.out.2.1.c2
  have c3 := H2.out.2.1.c3
  have c4 := H2.out.2.1.c4
  have c5 := H2.out.2.1.c5
  have c6 := H2.out.2.1.c6
  clear H1
  go_upto_region 4 with fail
  have H3 : Aside (T3 w (w2.alloc (.cells #[.int .i64 0, .int .u32 0, .int .u8 0, .int .u8 0, .slice none 0 0, .int .i64 0, .bool false] 43)) g0 g1 w2.heap.size gp L 0 0 0 0 (.slice none 0 0) 0 false) :=
    ⟨H2.out.1.other (Stp.alloc [] _ _) (by simp), H2.out.2.1.other (Stp.alloc [] _ _) (by simp), heap_alloc_new w2 _, H2.out.2.2.1.trans (Stp.alloc [] _ _), fun j x hx => ((Stp.alloc [] w2 (.cells #[.int .i64 0, .int .u32 0, .int .u8 0, .int .u8 0, .slice none 0 0, .int .i64 0, .bool false] 43)).cell (a := ⟨gp, j, none⟩) (Nat.lt_trans H2.out.2.2.2.2.2.1 H2.out.2.2.2.2.2.2) (by simp)).trans (H2.out.2.2.2.1 j x hx), by rw [HG.out]; exact Nat.le_refl _, H2.out.2.2.2.2.1, H2.out.2.2.2.2.2.1, H2.out.2.2.2.2.2.2, by have := H2.out.2.2.2.2; simp; omega⟩
  generalize w2.alloc (.cells #[.int .i64 0, .int .u32 0, .int .u8 0, .int .u8 0, .slice none 0 0, .int .i64 0, .bool false] 43) = w3 at *
  generalize w2.heap.size = g2 at *
  clear H2 c0 c1 c2 c3 c4 c5 c6
  have hLL : L = a :: b :: R := HL.out.1.trans HLL.out
  have d0 : w3.cell? ⟨gp, 0, none⟩ = some (.string (st a)) := H3.out.p 0 a (by rw [hLL]; rfl)
  have d1 : w3.cell? ⟨gp, 1, none⟩ = some (.string (st b)) := H3.out.p 1 b (by rw [hLL]; rfl)
  have hpR : p = R.length + 2 := by rw [HL.out.2, hLL]; rfl
  have hp2 : ¬ (p : Int) < 2 := by omega
  have hp0 : (0 : Int) < (p : Int) := by omega
  have hp1 : (1 : Int) < (p : Int) := by omega
  have HR := Lib.hid (And.intro hLL hpR)
  clear hLL hpR
  obtain ⟨q, hq⟩ : ∃ q, p = q + 1 := ⟨p - 1, by have := HR.out.2; omega⟩
  obtain ⟨z, hz⟩ : ∃ z, L[q]? = some z := ⟨L[q]'(by have := HL.out.2; omega), List.getElem?_eq_getElem _⟩
  have hzl : z.length ≤ 2000 := by have h1 := spl_mem_len 32 s z (by rw [← HL.out.1]; exact List.mem_of_getElem? hz); omega
  have KN := Lib.hid (fun W => rnum18_run z (by omega) W)
  obtain ⟨nz, hnz⟩ : ∃ nz, nz = rz (rnum 10 18 z) := ⟨_, rfl⟩
  rw [← hnz] at KN
  have HN := Lib.hid (And.intro hz (And.intro hnz hq))
  have hsub : IntKind.i64.wrap ((p : Int) - 1) = (q : Int) := by rw [IntKind.wrap_i64]; have := hcm; simp [maxLen] at this; omega
  have hq0 : (0 : Int) ≤ (q : Int) := by omega
  have hqp : (q : Int) < (p : Int) := by omega
  clear hz hnz hq hzl
  have k0 := H3.out.e.c6
  have k1 := H3.out.e.fz 6
  go_upto_region 13 with fail
  have H4 : Aside (T3 w (w3.setCell ⟨g1, 6, none⟩ (.bool false)) g0 g1 g2 gp L 0 0 0 0 (.slice none 0 0) 0 false) := H3.out.act (stp_one _ _ _ _) (H3.out.e.setO false)
  generalize w3.setCell ⟨g1, 6, none⟩ (.bool false) = w4 at *
  clear H3 k0 k1 d0 d1
  have d2 : w4.cell? ⟨gp, q, none⟩ = some (.string (st z)) := H4.out.p q z HN.out.1
  have d0 : w4.cell? ⟨gp, 0, none⟩ = some (.string (st a)) := H4.out.p 0 a (by rw [HR.out.1]; rfl)
  go_wp2_with fail
  refine (KN.out _).mono ?_
  rintro _ w4 ⟨rfl, rfl⟩
  clear KN d2
  have hpe : ((p : Int) != 5) = true := by
    rw [bne_iff_ne]
    have h1 := HR.out.2
    have h2 := HXhR.out
    omega
  go_upto_region 20 with fail
  have c0 := H4.out.r.c0
  have c1 := H4.out.r.c1
  have c2 := H4.out.r.c2
  have c3 := H4.out.r.c3
  have c4 := H4.out.r.c4
  have c5 := H4.out.r.c5
  have c6 := H4.out.r.c6
  have e0 := H4.out.z.c0
  have e1 := H4.out.z.c1
  have e2 := H4.out.z.c2
  have e3 := H4.out.z.c3
  have e4 := H4.out.z.c4
  have e5 := H4.out.z.c5
  have e6 := H4.out.z.c6
  have z0 := H4.out.r.fz 0
  have z1 := H4.out.r.fz 1
  have z2 := H4.out.r.fz 2
  have z3 := H4.out.r.fz 3
  have z4 := H4.out.r.fz 4
  have z5 := H4.out.r.fz 5
  have z6 := H4.out.r.fz 6
  go_wp2
  refine bodyPost_ret (res_eff2 rfl _ rfl (H4.out.r.set7 0 0 0 0 (.slice none 0 0) 0 false)) rfl ?_
  refine ⟨(H4.out.stp.fresh (stp7 _ _ _ _ _ _ _ _ _) (by have := H4.out.lo; simp; omega)).none, ?_⟩
  rw [HRF.out]
  rfl
end Go.Proofs.YthfiilhbgogoaaaGreatDoor
