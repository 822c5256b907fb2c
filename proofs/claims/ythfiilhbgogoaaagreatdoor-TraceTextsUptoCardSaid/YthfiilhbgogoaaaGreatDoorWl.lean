/-
  The closures that write a line: of each form.
-/
import Derived.Test.YthfiilhbgogoaaaGreatDoorBare
namespace Go.Proofs.YthfiilhbgogoaaaGreatDoor
open Go.RowKit Go.Lib
set_option linter.unusedVariables false

def wks : List FK → Ev → List UInt8
  | [], _ => []
  | k :: ks, x => 32 :: (wt k x ++ wks ks (off k x))
def offs : List FK → Ev → Ev
  | [], x => x
  | k :: ks, x => offs ks (off k x)
/-- What a form writes. -/
def lnv (nm : List UInt8) (ks : List FK) (x : Ev) : Value := if x.n < 0 then .tuple #[.string (st []), .bool false] else .tuple #[.string (st (nm ++ wks ks x)), .bool (bare (offs ks x))]
structure Pk (x : Ev) : Prop where
  att : Ok x.f x.m x.t
  n0 : 0 ≤ x.n
  n1 : x.n ≤ 9223372036854775807
  len : x.l.length ≤ 100000
theorem Pk.off {x : Ev} (h : Pk x) (k : FK) : Pk (off k x) := by
  cases k
  · exact ⟨h.att, h.n0, h.n1, h.len⟩
  · exact ⟨⟨by show (0 : Nat) < 4294967296; omega, by show (0 : Nat) < 256; omega, by show (0 : Nat) < 256; omega⟩, h.n0, h.n1, h.len⟩
  · exact ⟨h.att, h.n0, h.n1, by show ([] : List UInt8).length ≤ 100000; simp⟩
  · exact ⟨h.att, by show (0 : Int) ≤ 0; omega, by show (0 : Int) ≤ _; omega, h.len⟩
theorem put_run (k : FK) (x : Ev) (hP : Pk x) (W : World) (hT : Tabs W) (g : Nat) (hx : XAt W g x) : Calls Tryz.prog (putId k) #[.pointer (some ⟨g, 0, none⟩)] W (Putd k x g W) := by
  cases k
  · exact okp_run x W g hx
  · exact atp_run x hP.att W hT g hx
  · exact dap_run x hP.len W g hx
  · exact nup_run x hP.n0 hP.n1 W hT g hx
theorem wt_len (k : FK) (x : Ev) (hP : Pk x) : (wt k x).length ≤ 300000 := by
  cases k
  · show (if x.ok then [111, 107] else [102, 97, 105, 108] : List UInt8).length ≤ 300000
    split <;> simp
  · have := text_len hP.att
    show (text x.f x.m x.t).length ≤ 300000
    omega
  · show (hext x.l).length ≤ 300000
    unfold hext
    split
    · simp
    · have h1 := hexs_len x.l
      have h2 := hP.len
      unfold hexs at h1
      omega
  · have := dig_len (b := 10) (by omega) 18 x.n.toNat (by have := hP.n1; omega)
    show (dig 10 x.n.toNat).length ≤ 300000
    omega
set_option maxHeartbeats 1000000 in
set_option maxRecDepth 100000 in
theorem wform_run (nm : List UInt8) (ks : List FK) (q : Nat × Nat) (x : Ev) (hk : ks.length ≤ 3) (hn : nm.length ≤ 10) (h1 : Ok x.f x.m x.t) (h2 : x.n ≤ 9223372036854775807) (h3 : x.l.length ≤ 100000) (w : World) (hT : Tabs w) (hF : FormAt w q nm ks) (hd : Ed w x) :
    Calls Tryz.prog 42 #[.agg #[.int .i64 x.k, .int .u32 (x.f : Int), .int .u8 (x.m : Int), .int .u8 (x.t : Int), .slice x.a x.l.length x.c, .int .i64 x.n, .bool x.ok], .pointer (some ⟨q.1, 0, none⟩), .pointer (some ⟨q.2, 0, none⟩)] w (Tells (lnv nm ks x) w) := by
  obtain ⟨hnm, a, cap, hf, hcl⟩ := hF
  obtain ⟨q1, q2⟩ := q
  simp only at hf hnm
  have hx2 : q2 < w.heap.size := block_lt_of_cell hf
  have hx1 : q1 < w.heap.size := block_lt_of_cell hnm
  have hx3 : ¬ q2 = w.heap.size := by omega
  have hx4 : ¬ q1 = w.heap.size := by omega
  by_cases hneg : x.n < 0
  · have HV : Aside (lnv nm ks x = .tuple #[.string (st []), .bool false]) := by
      show lnv nm ks x = _
      unfold lnv
      rw [if_pos hneg]
    clear hcl hT hd
    go_enter Tryz.func42, Tryz.ntmps42
    go_wp2
    go_ret2
    exact ⟨by rw [HV.out]; rfl, Stp.alloc _ _ _⟩
  have hneg2 : ¬ x.n < 0 := hneg
  have HV : Aside (lnv nm ks x = .tuple #[.string (st (nm ++ wks ks x)), .bool (bare (offs ks x))]) := by
    show lnv nm ks x = _
    unfold lnv
    rw [if_neg hneg]
  have H0 : Aside (XAt (w.alloc (.cells #[.int .i64 x.k, .int .u32 (x.f : Int), .int .u8 (x.m : Int), .int .u8 (x.t : Int), .slice x.a x.l.length x.c, .int .i64 x.n, .bool x.ok] 43)) w.heap.size x ∧ Stp [] w [w.heap.size] (w.alloc (.cells #[.int .i64 x.k, .int .u32 (x.f : Int), .int .u8 (x.m : Int), .int .u8 (x.t : Int), .slice x.a x.l.length x.c, .int .i64 x.n, .bool x.ok] 43)) ∧ Pk x) :=
    ⟨⟨heap_alloc_new _ _, hd.stays (Stp.alloc [] _ _), hd.1.apart (Nat.le_refl _)⟩, (Stp.alloc [] w _).fresh (Stp.refl [w.heap.size] _) (by simp), ⟨h1, by omega, h2, h3⟩⟩
  have HC : Aside ((∀ (i : Nat) k, ks[i]? = some k → ∃ g, a = some ⟨g, 0, none⟩ ∧ w.cell? ⟨g, 2 * i, none⟩ = some (putF k) ∧ w.cell? ⟨g, 2 * i + 1, none⟩ = some (takeF k)) ∧ Tabs w) := ⟨hcl, hT⟩
  clear hcl hT hd h1 h2 h3
  go_enter Tryz.func42, Tryz.ntmps42
  go_wp2
  go_loopg [6, 15] ks.length (fun gk v6 v15 wr => ∃ (i : Nat) (P : List UInt8) (y : Ev), v6 = .string (st P) ∧ v15 = .int .i64 (i : Int) ∧ i ≤ ks.length ∧ ks.length - i ≤ gk ∧ P.length ≤ 10 + i * 300001 ∧ Aside (nm ++ wks ks x = P ++ wks (ks.drop i) y ∧ offs ks x = offs (ks.drop i) y ∧ Pk y ∧ XAt wr w.heap.size y ∧ Stp [] w [w.heap.size] wr))
  case atStart => exact ⟨0, nm, x, rfl, rfl, by omega, by omega, by omega, rfl, rfl, H0.out.2.2, H0.out.1, H0.out.2.1⟩
  case round =>
    obtain ⟨i, P, y, rfl, rfl, hi, hg, hPl, HS⟩ := hrel
    have hPm : P.length ≤ 1000000 := by
      have : i * 300001 ≤ 3 * 300001 := Nat.mul_le_mul_right _ (by omega)
      omega
    have y1 := st_size P
    by_cases hlt : i < ks.length
    · have hltz : (i : Int) < (ks.length : Int) := by omega
      obtain ⟨k, hk2⟩ : ∃ k, ks[i]? = some k := ⟨ks[i], List.getElem?_eq_getElem hlt⟩
      obtain ⟨gs, ha, r1, r2⟩ := HC.out.1 i k hk2
      subst ha
      have e1 := HS.out.2.2.2.2.keepsAny r1
      have e2 := HS.out.2.2.2.2.keepsAny r2
      rw [putF_id, Nat.mul_comm] at e1
      rw [takeF_id, Nat.mul_comm] at e2
      have hks : ks.drop i = k :: ks.drop (i + 1) := by
        obtain ⟨h, e⟩ := List.getElem?_eq_some_iff.1 hk2
        rw [List.drop_eq_getElem_cons h, e]
      have hTl := wt_len k y HS.out.2.2.1
      have HE : Aside (nm ++ wks ks x = (P ++ ([32] ++ wt k y)) ++ wks (ks.drop (i + 1)) (off k y) ∧ offs ks x = offs (ks.drop (i + 1)) (off k y) ∧ Pk (off k y)) := by
        refine ⟨?_, ?_, HS.out.2.2.1.off k⟩
        · rw [HS.out.1, hks]
          simp [wks]
        · rw [HS.out.2.1, hks]
          rfl
      have KT : Hid (∀ W, Stp [] wr [] W → Calls Tryz.prog (putId k) #[.pointer (some ⟨w.heap.size, 0, none⟩)] W (Putd k y w.heap.size W)) := Lib.hid fun W hs => put_run k y HS.out.2.2.1 W ((HC.out.2.stays HS.out.2.2.2.2).stays hs) _ (HS.out.2.2.2.1.stays hs)
      have HG : Aside (Stp [] w [w.heap.size] wr) := HS.out.2.2.2.2
      have hpl : (P ++ ([32] ++ wt k y)).length ≤ 10 + (i + 1) * 300001 := by
        rw [List.length_append, List.length_append, List.length_singleton, Nat.add_mul]
        omega
      have a1 := st_append [32] (wt k y)
      have a2 := st_append P ([32] ++ wt k y)
      have hs32 : st [32] = ⟨#[32]⟩ := rfl
      rw [hs32] at a1
      have y2 := st_size (wt k y)
      have y3 : (st ([32] ++ wt k y)).size = (wt k y).length + 1 := by rw [st_size]; simp
      have hid : putId k = 45 ∨ putId k = 47 ∨ putId k = 51 ∨ putId k = 55 := by cases k <;> simp [putId]
      unfold Putd at KT
      generalize putId k = pid at e1 KT hid
      generalize takeId k = tid at e2
      generalize P ++ ([32] ++ wt k y) = P2 at *
      generalize [32] ++ wt k y = T2 at *
      generalize wt k y = T at *
      clear HS hks hk2 r1 r2 HV H0
      rcases hid with rfl | rfl | rfl | rfl
      all_goals
        go_wp2_with fail
        refine (KT.out _ (Stp.alloc [] _ _)).mono ?_
        rintro _ w5 ⟨rfl, hX5, h5⟩
        have H5 : Aside (XAt w5 w.heap.size (off k y) ∧ Stp [] w [w.heap.size] w5) := ⟨hX5, (HG.out.none.trans (Stp.alloc [] _ _)).fresh h5 (by simp)⟩
        clear hX5 h5
        go_wp2
        go_roundg (ks.length - (i + 1))
        case measure => omega
        case rel => exact ⟨i + 1, P2, off k y, rfl, by go_num, by omega, by omega, hpl, HE.out.1, HE.out.2.1, HE.out.2.2, H5.out.1, H5.out.2⟩
    · have hltz : ¬ (i : Int) < (ks.length : Int) := by omega
      obtain ⟨hw1, hw2, hPk, hX, hSt⟩ := HS.out
      rw [List.drop_eq_nil_of_le (by omega)] at hw1 hw2
      have HE : Aside (lnv nm ks x = .tuple #[.string (st P), .bool (bare y)] ∧ Stp [] w [w.heap.size] wr) := by
        refine ⟨?_, hSt⟩
        rw [HV.out, hw1, hw2]
        simp [wks, offs]
      have c0 := hX.at7.c0
      have c1 := hX.at7.c1
      have c2 := hX.at7.c2
      have c3 := hX.at7.c3
      have c4 := hX.at7.c4
      have c5 := hX.at7.c5
      have c6 := hX.at7.c6
      have KS : Hid (Calls Tryz.prog 26 #[.agg #[.int .i64 y.k, .int .u32 (y.f : Int), .int .u8 (y.m : Int), .int .u8 (y.t : Int), .slice y.a y.l.length y.c, .int .i64 y.n, .bool y.ok], .agg #[.int .i64 y.k, .int .u32 0, .int .u8 0, .int .u8 0, .slice none 0 0, .int .i64 0, .bool false]] wr (Tells (.bool (bare y)) wr)) := Lib.hid (same_bare y wr hX.ed.1)
      clear hw1 hw2 hPk hX hSt HS HV H0 HC
      go_wp2_with fail
      refine KS.out.mono ?_
      rintro _ w5 ⟨rfl, h5⟩
      go_wp2
      go_ret2
      exact ⟨by rw [HE.out.1]; rfl, HE.out.2.none.trans h5⟩
end Go.Proofs.YthfiilhbgogoaaaGreatDoor
