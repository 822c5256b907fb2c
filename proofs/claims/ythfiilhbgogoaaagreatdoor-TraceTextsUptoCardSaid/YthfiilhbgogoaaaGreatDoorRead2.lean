/-
  attrs.Read: the attributes of a text, or that it is none's.
-/
import Derived.Test.YthfiilhbgogoaaaGreatDoorRead
import Derived.Test.YthfiilhbgogoaaaGreatDoorAt
namespace Go.Proofs.YthfiilhbgogoaaaGreatDoor
open Go.RowKit Go.Lib
set_option linter.unusedVariables false

/-! ### What is gathered of a text -/
def rdf (l : List UInt8) : Nat := gf (cutc 32 l).1
def rdm (l : List UInt8) : Nat := gat 10 255 (cutc 32 (cutc 32 l).2.1).1
def rdt (l : List UInt8) : Nat := gat 10 255 (cutc 32 (cutc 32 l).2.1).2.1
theorem rd_ok (l : List UInt8) : Ok (rdf l) (rdm l) (rdt l) := ⟨gf_le _, Nat.lt_succ_of_le (gat_le 10 255 _), Nat.lt_succ_of_le (gat_le 10 255 _)⟩
theorem rd_text {f m t : Nat} (h : Ok f m t) : rdf (text f m t) = f ∧ rdm (text f m t) = m ∧ rdt (text f m t) = t := by
  have h1 : cutc 32 (text f m t) = (ftext f, dig 10 m ++ 32 :: dig 10 t, true) := cutc_app _ (ftext_no f)
  have h2 : cutc 32 (dig 10 m ++ 32 :: dig 10 t) = (dig 10 m, dig 10 t, true) := cutc_app _ (dig_no (by omega) (by omega) m).1
  unfold rdf rdm rdt
  rw [h1]
  simp only [h2]
  exact ⟨gf_ftext h.f, gat_dig (by omega) (by omega) (by have := h.m; omega), gat_dig (by omega) (by omega) (by have := h.t; omega)⟩
/-- What Read answers. -/
def rv (l : List UInt8) : Value := if text (rdf l) (rdm l) (rdt l) = l then .tuple #[av (rdf l) (rdm l) (rdt l), .int .i64 0] else .tuple #[av 0 0 0, .int .i64 8]
theorem rv_text {f m t : Nat} (h : Ok f m t) : rv (text f m t) = .tuple #[av f m t, .int .i64 0] := by
  obtain ⟨h1, h2, h3⟩ := rd_text h
  unfold rv
  rw [h1, h2, h3, if_pos rfl]
theorem rv_no {l : List UInt8} (h : ∀ f m t, Ok f m t → text f m t ≠ l) : rv l = .tuple #[av 0 0 0, .int .i64 8] := by
  unfold rv
  rw [if_neg (h _ _ _ (rd_ok l))]
theorem rv_cases (l : List UInt8) : (∃ f m t, Ok f m t ∧ text f m t = l ∧ rv l = .tuple #[av f m t, .int .i64 0]) ∨ ((∀ f m t, Ok f m t → text f m t ≠ l) ∧ rv l = .tuple #[av 0 0 0, .int .i64 8]) := by
  by_cases h : text (rdf l) (rdm l) (rdt l) = l
  · exact .inl ⟨_, _, _, rd_ok l, h, by unfold rv; rw [if_pos h]⟩
  · have hn : ∀ f m t, Ok f m t → text f m t ≠ l := by
      intro f m t ho e
      subst e
      obtain ⟨h1, h2, h3⟩ := rd_text ho
      rw [h1, h2, h3] at h
      exact h rfl
    exact .inr ⟨hn, rv_no hn⟩

set_option maxHeartbeats 2000000 in
set_option maxRecDepth 100000 in
theorem read_run (l : List UInt8) (hl : l.length ≤ 1000000) (w : World) (hT : Tabs w) : Calls Tryz.prog 50 #[.string (st l)] w (Tells (rv l) w) := by
  have ho := rd_ok l
  have l1 := cutc_len 32 l
  have l2 := cutc_len 32 (cutc 32 l).2.1
  have HT : Aside (Tabs w) := hT
  have K1 : Hid (∀ W, Calls Tryz.prog 21 #[.string (st l), .string ⟨#[32]⟩] W (Tells (.tuple #[.string (st (cutc 32 l).1), .string (st (cutc 32 l).2.1), .bool (cutc 32 l).2.2]) W)) := Lib.hid fun W => cut_run l 32 W (by omega)
  have K2 : Hid (∀ W, Calls Tryz.prog 21 #[.string (st (cutc 32 l).2.1), .string ⟨#[32]⟩] W (Tells (.tuple #[.string (st (cutc 32 (cutc 32 l).2.1).1), .string (st (cutc 32 (cutc 32 l).2.1).2.1), .bool (cutc 32 (cutc 32 l).2.1).2.2]) W)) := Lib.hid fun W => cut_run _ 32 W (by omega)
  have K3 : Hid (∀ W, Stp [] w [] W → Calls Tryz.prog 68 #[.string (st (cutc 32 l).1)] W (Tells (.int .u32 (rdf l : Int)) W)) := Lib.hid fun W hs => gflags_run _ (by omega) W (HT.out.stays hs)
  have K4 : Hid (∀ W, Stp [] w [] W → Calls Tryz.prog 69 #[.string (st (cutc 32 (cutc 32 l).2.1).1)] W (Tells (.int .u8 (rdm l : Int)) W)) := Lib.hid fun W hs => gbyte_run _ (by omega) W (HT.out.stays hs)
  have K5 : Hid (∀ W, Stp [] w [] W → Calls Tryz.prog 69 #[.string (st (cutc 32 (cutc 32 l).2.1).2.1)] W (Tells (.int .u8 (rdt l : Int)) W)) := Lib.hid fun W hs => gbyte_run _ (by omega) W (HT.out.stays hs)
  have K6 : Hid (∀ W, Stp [] w [] W → Calls Tryz.prog 48 #[.agg #[.int .u32 (rdf l : Int), .int .u8 (rdm l : Int), .int .u8 (rdt l : Int)]] W (Tells (.string (st (text (rdf l) (rdm l) (rdt l)))) W)) := Lib.hid fun W hs => text_run ho W (HT.out.stays hs)
  have HV : Aside (rv l = if text (rdf l) (rdm l) (rdt l) = l then .tuple #[av (rdf l) (rdm l) (rdt l), .int .i64 0] else .tuple #[av 0 0 0, .int .i64 8]) := rfl
  clear hT l1 l2 ho
  generalize (cutc 32 (cutc 32 l).2.1).2.2 = b2 at *
  generalize (cutc 32 (cutc 32 l).2.1).2.1 = s4 at *
  generalize (cutc 32 (cutc 32 l).2.1).1 = s3 at *
  generalize (cutc 32 l).2.2 = b1 at *
  generalize (cutc 32 l).2.1 = s2 at *
  generalize (cutc 32 l).1 = s1 at *
  generalize rdf l = f at *
  generalize rdm l = m at *
  generalize rdt l = t at *
  go_enter Tryz.func50, Tryz.ntmps50
  go_wp2_with fail
  refine (K1.out _).mono ?_
  rintro _ w1 ⟨rfl, h1⟩
  go_wp2_with fail
  refine (K2.out _).mono ?_
  rintro _ w2 ⟨rfl, h2⟩
  go_wp2_with fail
  have HS2 : Aside (At3 w2 w.heap.size 0 0 0 ∧ Stp [] w [] w2) := ⟨((At3.new w 0 0 0).stays h1).stays h2, ((Stp.alloc [] w _).trans h1).trans h2⟩
  clear h1 h2
  refine (K3.out _ HS2.out.2).mono ?_
  rintro _ w3 ⟨rfl, h3⟩
  go_wp2_with fail
  refine (K4.out _ (HS2.out.2.trans h3)).mono ?_
  rintro _ w4 ⟨rfl, h4⟩
  go_wp2_with fail
  refine (K5.out _ ((HS2.out.2.trans h3).trans h4)).mono ?_
  rintro _ w5 ⟨rfl, h5⟩
  have HS5 : Aside (At3 w5 w.heap.size 0 0 0 ∧ Stp [] w [] w5) := ⟨((HS2.out.1.stays h3).stays h4).stays h5, ((HS2.out.2.trans h3).trans h4).trans h5⟩
  clear h3 h4 h5 HS2
  go_wp2_with fail
  refine (K6.out _ (HS5.out.2.trans (Stp.alloc [] _ _))).mono ?_
  rintro _ w6 ⟨rfl, h6⟩
  have HS6 : Aside (At3 w6 w.heap.size 0 0 0 ∧ At3 w6 w5.heap.size f m t ∧ Stp [] w [] w6) := ⟨(HS5.out.1.stays (Stp.alloc [] _ _)).stays h6, (At3.new w5 f m t).stays h6, (HS5.out.2.trans (Stp.alloc [] _ _)).trans h6⟩
  clear HS5 h6
  obtain ⟨c0, c1, c2, f0, f1, f2⟩ := HS6.out.1.cells
  obtain ⟨d0, d1, d2, _, _, _⟩ := HS6.out.2.1.cells
  by_cases he : text f m t = l
  · have hq : ((st (text f m t)).toList == (st l).toList) = true := st_yes (by rw [he])
    have HV2 : Aside (rv l = .tuple #[av f m t, .int .i64 0]) := HV.out.trans (if_pos he)
    clear HV he
    generalize text f m t = x at *
    go_wp2
    refine bodyPost_ret (res_attrs2 rfl _ _ w.heap.size f m t rfl (HS6.out.1.set f m t)) rfl ?_
    exact ⟨by rw [HV2.out]; rfl, (HS6.out.2.2.fresh (At3.stp _ _ _ _ _) (by simp)).none⟩
  · have hq : ((st (text f m t)).toList == (st l).toList) = false := st_no (fun e => he (st_inj e))
    have HV2 : Aside (rv l = .tuple #[av 0 0 0, .int .i64 8]) := HV.out.trans (if_neg he)
    clear HV he
    generalize text f m t = x at *
    go_wp2
    refine bodyPost_ret (res_attrs2 rfl _ _ w.heap.size 0 0 0 rfl (HS6.out.1.set 0 0 0)) rfl ?_
    exact ⟨by rw [HV2.out]; rfl, (HS6.out.2.2.fresh (At3.stp _ _ _ _ _) (by simp)).none⟩
end Go.Proofs.YthfiilhbgogoaaaGreatDoor
