/-
  trace.Read: the effect of a text, by the seven forms in turn.
-/
import Derived.Test.YthfiilhbgogoaaaGreatDoorRd
import Derived.Deep.DeepCutAuto
import Derived.Deep.CutBlock
namespace Go.Proofs.YthfiilhbgogoaaaGreatDoor
open Go.RowKit Go.Lib
set_option linter.unusedVariables false

def rdL : List (List UInt8 × List FK) → Nat → List UInt8 → Option (Nat × Ef)
  | [], _, _ => none
  | nk :: r, i, s => match rd1 nk.1 nk.2 s with
    | some x => some (i, x)
    | none => rdL r (i + 1) s
/-- What Read answers: the kind and the effect, or that there is none. -/
def rdAll (s : List UInt8) : Option (Nat × Ef) := rdL FL 0 s
def EffTo (o : Option (Nat × Ef)) (w : World) (e : Ending) (w' : World) : Prop :=
  Stp [] w [] w' ∧ match o with
    | none => e = .returned (.tuple #[evv 0 0 0 0 (.slice none 0 0) 0 false, .int .i64 8])
    | some (k, x) => ∃ d, e = .returned (.tuple #[evv (k : Int) x.f x.m x.t d (x.n : Int) x.ok, .int .i64 0]) ∧ Dal w.heap.size w' d x.d
theorem FL_len : FL.length = 7 := rfl
theorem FL_ks : ∀ nk ∈ FL, nk.2.length ≤ 3 := by
  intro nk h
  simp [FL] at h
  rcases h with rfl | rfl | rfl | rfl | rfl | rfl | rfl <;> simp
theorem closures_at : ∀ (X : List (Nat × Nat)) (i : Nat) x, X[i]? = some x → (closures X)[2 * i]? = some (wF x.1 x.2) ∧ (closures X)[2 * i + 1]? = some (rF x.1 x.2)
  | [], i, x, h => by simp at h
  | x0 :: X, 0, x, h => by
    simp at h
    subst h
    exact ⟨rfl, rfl⟩
  | x0 :: X, i + 1, x, h => by
    have := closures_at X i x (by simpa using h)
    have e : closures (x0 :: X) = wF x0.1 x0.2 :: rF x0.1 x0.2 :: closures X := rfl
    rw [e, show 2 * (i + 1) = 2 * i + 1 + 1 by omega, show 2 * i + 1 + 1 + 1 = (2 * i + 1) + 1 + 1 by omega]
    simpa using this
set_option maxHeartbeats 1000000 in
set_option maxRecDepth 100000 in
theorem eff_run (X : List (Nat × Nat)) (ga : Nat) (s : List UInt8) (hs : s.length ≤ 100000) (w : World) (hT : Tabs w) (hX : AllAt w X) (hg : w.heap[ga]? = some (.cells (closures X).toArray 52 (0, 0))) :
    Calls Tryz.prog 22 #[.pointer (some ⟨ga, 0, none⟩), .string (st s)] w (EffTo (rdAll s) w) := by
  have hgl : ga < w.heap.size := (Array.getElem?_eq_some_iff.1 hg).1
  have hgn : ¬ ga = w.heap.size := by omega
  have HC : Aside (∀ (i : Nat) x, X[i]? = some x → w.cell? ⟨ga, i * 2, none⟩ = some (wF x.1 x.2) ∧ w.cell? ⟨ga, i * 2 + 1, none⟩ = some (rF x.1 x.2)) := fun i x hx => by
    have h := closures_at X i x hx
    rw [Nat.mul_comm] at h
    rw [cell_of_row w ga _ _ _ _ hg, cell_of_row w ga _ _ _ _ hg]
    simpa using h
  have HT : Aside (Tabs w ∧ AllAt w X) := ⟨hT, hX⟩
  clear hg hT hX
  go_enter Tryz.func22, Tryz.ntmps22
  have H0 : Aside (EAt (w.alloc (.cells #[.int .i64 0, .int .u32 0, .int .u8 0, .int .u8 0, .slice none 0 0, .int .i64 0, .bool false] 43)) w.heap.size 0 0 0 0 (.slice none 0 0) 0 false ∧ Stp [] w [] (w.alloc (.cells #[.int .i64 0, .int .u32 0, .int .u8 0, .int .u8 0, .slice none 0 0, .int .i64 0, .bool false] 43))) := ⟨heap_alloc_new _ _, Stp.alloc _ _ _⟩
  go_wp2
  go_loopg [12] 7 (fun gk v12 wr => ∃ i : Nat, v12 = .int .i64 (i : Int) ∧ i ≤ 7 ∧ 7 - i ≤ gk ∧ Aside (rdAll s = rdL (FL.drop i) i s ∧ EAt wr w.heap.size 0 0 0 0 (.slice none 0 0) 0 false ∧ Stp [] w [] wr))
  case atStart => exact ⟨0, rfl, by omega, by omega, rfl, H0.out.1, H0.out.2⟩
  case round =>
    obtain ⟨i, rfl, hi, hgk, HS⟩ := hrel
    obtain ⟨hrd, R0, hSt⟩ := HS.out
    by_cases hlt : i < 7
    · have hltz : (i : Int) < 7 := by omega
      obtain ⟨x, hx⟩ : ∃ x, X[i]? = some x := ⟨X[i]'(by rw [HT.out.2.1]; omega), List.getElem?_eq_getElem _⟩
      obtain ⟨nk, hnk⟩ : ∃ nk, FL[i]? = some nk := ⟨FL[i]'(by rw [FL_len]; omega), List.getElem?_eq_getElem _⟩
      have hdr : FL.drop i = nk :: FL.drop (i + 1) := by
        obtain ⟨h, e⟩ := List.getElem?_eq_some_iff.1 hnk
        rw [List.drop_eq_getElem_cons h, e]
      have hk3 := FL_ks nk (List.mem_of_getElem? hnk)
      have KR : Hid (∀ W, Stp [] wr [] W → Calls Tryz.prog 43 #[.string (st s), .pointer (some ⟨x.2, 0, none⟩), .pointer (some ⟨x.1, 0, none⟩)] W (ReadTo (rd1 nk.1 nk.2 s) W)) := Lib.hid fun W h => rform_run nk.1 nk.2 x s hs hk3 W ((HT.out.1.stays hSt).stays h) (((HT.out.2.stays hSt).stays h).2 i x nk hx hnk)
      have HRD : Aside (rdAll s = match rd1 nk.1 nk.2 s with
          | some x => some (i, x)
          | none => rdL (FL.drop (i + 1)) (i + 1) s) := by
        show rdAll s = _
        rw [hrd, hdr]
        rfl
      obtain ⟨q1, q2⟩ := HC.out i x hx
      have e1 := hSt.keepsAny q1
      have e2 := hSt.keepsAny q2
      unfold wF at e1
      unfold rF at e2
      have HG : Aside (EAt wr w.heap.size 0 0 0 0 (.slice none 0 0) 0 false ∧ Stp [] w [] wr) := ⟨R0, hSt⟩
      have hga : ga < wr.heap.size := by have := hSt.size; omega
      have hga2 : ¬ ga = wr.heap.size := by omega
      clear hrd R0 hSt HS hdr hk3 hx hnk q1 q2 H0
      go_wp2_with fail
      go_region
      go_wp2_with fail
      refine (KR.out _ ((Stp.alloc [] _ _).trans (Stp.drew _ _))).mono ?_
      rintro e0 w5 ⟨h5, hm⟩
      have hS5 : Stp [] wr [] w5 := ((Stp.alloc [] _ _).trans (Stp.drew _ _)).trans h5
      have hRl := HG.out.1.lt
      have R0 := HG.out.1.other hS5 (by simp)
      have HG5 : Aside (EAt w5 w.heap.size 0 0 0 0 (.slice none 0 0) 0 false ∧ Stp [] w [] w5) := ⟨R0, HG.out.2.trans hS5⟩
      clear h5 hS5 KR HG e1 e2
      cases hr : rd1 nk.1 nk.2 s with
      | none =>
        rw [hr] at hm
        subst hm
        have HRN : Aside (rdAll s = rdL (FL.drop (i + 1)) (i + 1) s) := by
          show rdAll s = _
          rw [HRD.out, hr]
        clear hr HRD R0
        unfold evv
        go_wp2
        go_roundg (7 - (i + 1))
        case measure => omega
        case rel => exact ⟨i + 1, by go_num, by omega, by omega, HRN.out, HG5.out.1.other (Stp.alloc [] _ _) (by simp), HG5.out.2.trans (Stp.alloc [] _ _)⟩
      | some y =>
        rw [hr] at hm
        obtain ⟨d, rfl, a, cap, rfl, hb1, hb2, hb3, hb4⟩ := hm
        have HRN : Aside (rdAll s = some (i, y)) := by
          show rdAll s = _
          rw [HRD.out, hr]
        have HB : Aside (Bts w5 a y.d ∧ y.d.length ≤ cap ∧ (a = none → cap = 0) ∧ ∀ ad, a = some ad → w.heap.size < ad.block) := ⟨hb1, hb2, hb3, fun ad e => by have h1 := hb4 ad e; have h2 := hRl; simp at h1; omega⟩
        have hr2 : ¬ w5.heap.size = w.heap.size := by have := R0.lt; omega
        clear hr HRD R0 hb1 hb2 hb3 hb4 hRl
        unfold evv
        go_upto_region 6 with fail
        have H6 : Aside (EAt (w5.alloc (.cells #[.int .i64 0, .int .u32 (y.f : Int), .int .u8 (y.m : Int), .int .u8 (y.t : Int), .slice a y.d.length cap, .int .i64 (y.n : Int), .bool y.ok] 43)) w5.heap.size 0 y.f y.m y.t (.slice a y.d.length cap) (y.n : Int) y.ok ∧ EAt (w5.alloc (.cells #[.int .i64 0, .int .u32 (y.f : Int), .int .u8 (y.m : Int), .int .u8 (y.t : Int), .slice a y.d.length cap, .int .i64 (y.n : Int), .bool y.ok] 43)) w.heap.size 0 0 0 0 (.slice none 0 0) 0 false ∧ Stp [] w [] (w5.alloc (.cells #[.int .i64 0, .int .u32 (y.f : Int), .int .u8 (y.m : Int), .int .u8 (y.t : Int), .slice a y.d.length cap, .int .i64 (y.n : Int), .bool y.ok] 43)) ∧ Bts (w5.alloc (.cells #[.int .i64 0, .int .u32 (y.f : Int), .int .u8 (y.m : Int), .int .u8 (y.t : Int), .slice a y.d.length cap, .int .i64 (y.n : Int), .bool y.ok] 43)) a y.d ∧ (y.d ≠ [] → ∀ ad, a = some ad → ad.block ≠ w5.heap.size)) :=
          ⟨heap_alloc_new _ _, HG5.out.1.other (Stp.alloc [] _ _) (by simp), HG5.out.2.trans (Stp.alloc [] _ _), HB.out.1.stays (Stp.alloc [] _ _), HB.out.1.apart (Nat.le_refl _)⟩
        generalize w5.alloc (.cells #[.int .i64 0, .int .u32 (y.f : Int), .int .u8 (y.m : Int), .int .u8 (y.t : Int), .slice a y.d.length cap, .int .i64 (y.n : Int), .bool y.ok] 43) = w6 at *
        have hge : w.heap.size ≤ w5.heap.size := HG5.out.2.size
        generalize w5.heap.size = ge at *
        have k0 := H6.out.1.c0
        have k1 := H6.out.1.fz 0
        go_upto_region 7 with fail
        have H7 : Aside (EAt (w6.setCell ⟨ge, 0, none⟩ (.int .i64 (i : Int))) ge (i : Int) y.f y.m y.t (.slice a y.d.length cap) (y.n : Int) y.ok ∧ EAt (w6.setCell ⟨ge, 0, none⟩ (.int .i64 (i : Int))) w.heap.size 0 0 0 0 (.slice none 0 0) 0 false ∧ Stp [] w [] (w6.setCell ⟨ge, 0, none⟩ (.int .i64 (i : Int))) ∧ Bts (w6.setCell ⟨ge, 0, none⟩ (.int .i64 (i : Int))) a y.d) :=
          ⟨H6.out.1.setK _, H6.out.2.1.other (stp_one _ _ _ _) (by simpa using fun h => hr2 h.symm), (H6.out.2.2.1.fresh (stp_one _ ge _ _) (by simpa using hge)).none, H6.out.2.2.2.1.other (stp_one _ _ _ _) (fun h ad e => by simpa using H6.out.2.2.2.2 h ad e)⟩
        generalize w6.setCell ⟨ge, 0, none⟩ (.int .i64 (i : Int)) = w7 at *
        clear k0 k1 H6 HG5
        have R0 := H7.out.2.1
        have c0 := R0.c0
        have c1 := R0.c1
        have c2 := R0.c2
        have c3 := R0.c3
        have c4 := R0.c4
        have c5 := R0.c5
        have c6 := R0.c6
        have z0 := R0.fz 0
        have z1 := R0.fz 1
        have z2 := R0.fz 2
        have z3 := R0.fz 3
        have z4 := R0.fz 4
        have z5 := R0.fz 5
        have z6 := R0.fz 6
        have e0 := H7.out.1.c0
        have e1 := H7.out.1.c1
        have e2 := H7.out.1.c2
        have e3 := H7.out.1.c3
        have e4 := H7.out.1.c4
        have e5 := H7.out.1.c5
        have e6 := H7.out.1.c6
        clear R0
        go_wp2
        refine bodyPost_ret (res_eff2 rfl _ rfl (H7.out.2.1.set7 (i : Int) y.f y.m y.t (.slice a y.d.length cap) (y.n : Int) y.ok)) rfl ?_
        refine ⟨(H7.out.2.2.1.fresh (stp7 _ _ _ _ _ _ _ _ _) (by simp)).none, ?_⟩
        rw [HRN.out]
        exact ⟨_, rfl, a, cap, rfl, H7.out.2.2.2.other (stp7 _ _ _ _ _ _ _ _ _) (fun _ ad e => by have := HB.out.2.2.2 ad e; simp; omega), HB.out.2.1, HB.out.2.2.1, fun ad e => Nat.le_of_lt (HB.out.2.2.2 ad e)⟩
    · have hltz : ¬ (i : Int) < 7 := by omega
      obtain rfl : i = 7 := by omega
      have HRN : Aside (rdAll s = none) := by
        show rdAll s = none
        rw [hrd]
        rfl
      have HG : Aside (EAt wr w.heap.size 0 0 0 0 (.slice none 0 0) 0 false ∧ Stp [] w [] wr) := ⟨R0, hSt⟩
      have c0 := R0.c0
      have c1 := R0.c1
      have c2 := R0.c2
      have c3 := R0.c3
      have c4 := R0.c4
      have c5 := R0.c5
      have c6 := R0.c6
      have z0 := R0.fz 0
      have z1 := R0.fz 1
      have z2 := R0.fz 2
      have z3 := R0.fz 3
      have z4 := R0.fz 4
      have z5 := R0.fz 5
      have z6 := R0.fz 6
      clear hrd R0 hSt HS H0
      go_wp2
      refine bodyPost_ret (res_eff2 rfl _ rfl (HG.out.1.set7 0 0 0 0 (.slice none 0 0) 0 false)) rfl ?_
      exact ⟨(HG.out.2.fresh (stp7 _ _ _ _ _ _ _ _ _) (by simp)).none, by rw [HRN.out]; rfl⟩
end Go.Proofs.YthfiilhbgogoaaaGreatDoor
