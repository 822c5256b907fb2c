/-
  AttrsFlags's walk.
-/
import Derived.Test.YtcjmnmcldppdhaaDoorAlive
import Derived.Test.YtcjmnmcldppdhaaDoorHs
namespace Go.Proofs.YtcjmnmcldppdhaaDoor
open Go.RowKit Go.Lib
set_option linter.unusedVariables false

theorem nms_at : ∀ i, i < 7 → nms[i]? = some (nm i) := by decide
set_option maxHeartbeats 4000000 in
set_option maxRecDepth 100000 in
theorem flags_walk (f m t n : Nat) (on : Bool) (w : World) (ho : Ok f m t) (hn : n < 4294967296) (hT : Tabs w) : Calls Tryd.prog 3 #[av f m t, .int .u32 (n : Int), .bool on] w (Truth w) := by
  have hf := ho.f
  have HT : Aside (Tabs w) := hT
  have K1 : Hid (∀ W, Stp [] w [] W → Calls Tryd.prog 10 #[] W fun e w' => ∃ v, e = .returned v ∧ SOwn w' W.heap.size v nms ∧ Stp [] W [] w') := Lib.hid fun W hs => names_run W (HT.out.stays hs)
  have K2 : Hid (∀ W, Calls Tryd.prog 11 #[] W fun e w' => ∃ g, e = .returned (.slice (some ⟨g, 0, none⟩) 7 7) ∧ Nam w' g ∧ Stp [] W [] w') := Lib.hid fun W => rnames_run W
  have K5 : Hid (∀ W, Stp [] w [] W → Calls Tryd.prog 12 #[] W (Tells (.bool true) W)) := Lib.hid fun W hs => alive_run W (HT.out.stays hs)
  have R1 : Hid (∀ W, Calls Tryd.prog 13 #[.agg #[.int .u32 (f : Int), .int .u8 (m : Int), .int .u8 (t : Int)]] W (Tells (.agg #[.int .u32 (ban f 63 : Int), .int .u8 1, .int .u8 0]) W)) := Lib.hid fun W => raw_run f m t hf W
  have R2 : Hid (∀ W, Calls Tryd.prog 14 #[.agg #[.int .u32 (f : Int), .int .u8 (m : Int), .int .u8 (t : Int)]] W (Tells (.agg #[.int .u32 (ban f 63 : Int), .int .u8 1, .int .u8 0]) W)) := Lib.hid fun W => rraw_run f m t hf W
  have R3 : Hid (∀ W, Calls Tryd.prog 15 #[.agg #[.int .u32 (f : Int), .int .u8 (m : Int), .int .u8 (t : Int)], .int .u32 (n : Int)] W (Tells (.bool (hs f n)) W)) := Lib.hid fun W => has_run f m t n hf hn W
  have R4 : Hid (∀ W, Calls Tryd.prog 16 #[.agg #[.int .u32 (f : Int), .int .u8 (m : Int), .int .u8 (t : Int)], .int .u32 (n : Int)] W (Tells (.bool (hs f n)) W)) := Lib.hid fun W => rhas_run f m t n hf hn W
  have R5 : Hid (∀ W, Calls Tryd.prog 17 #[.agg #[.int .u32 (f : Int), .int .u8 (m : Int), .int .u8 (t : Int)], .int .u32 (n : Int), .bool on] W (Tells (.agg #[.int .u32 (wth f n on : Int), .int .u8 (m : Int), .int .u8 (t : Int)]) W)) := Lib.hid fun W => with_run f m t n on hf hn W
  have R6 : Hid (∀ W, Calls Tryd.prog 18 #[.agg #[.int .u32 (f : Int), .int .u8 (m : Int), .int .u8 (t : Int)], .int .u32 (n : Int), .bool on] W (Tells (.agg #[.int .u32 (wth f n on : Int), .int .u8 (m : Int), .int .u8 (t : Int)]) W)) := Lib.hid fun W => rwith_run f m t n on hf hn W
  clear hT ho hf
  generalize ban f 63 = x at *
  generalize wth f n on = y at *
  generalize hs f n = b at *
  unfold av
  go_enter Tryd.func3, Tryd.ntmps3
  go_wp2_with fail
  refine (K1.out _ (Stp.alloc [] _ _)).mono ?_
  rintro _ w1 ⟨v, rfl, o1, h1⟩
  go_wp2_with fail
  refine (K2.out _).mono ?_
  rintro _ w2 ⟨g, rfl, n2, h2⟩
  obtain ⟨a7, cap7, hv7, hn7, hc7, hm7, hr7⟩ := (o1.stays h2).form
  have hl7 : nms.length = 7 := rfl
  rw [hl7] at hv7
  obtain ⟨ad, rfl⟩ : ∃ ad, a7 = some ad := by
    rcases a7 with _ | ad
    · have := (hn7 rfl).2
      cases this
    · exact ⟨ad, rfl⟩
  obtain ⟨g7, rfl, hg71, hg72, hcl⟩ := hr7 ad rfl
  subst hv7
  have HA : Aside (At3 w2 w.heap.size f m t ∧ Stp [] w [] w2) := ⟨((At3.new w f m t).stays h1).stays h2, ((Stp.alloc [] w _).trans h1).trans h2⟩
  have HC : Aside (∀ i, i < 7 → w2.cell? ⟨g7, i, none⟩ = some (.string (st (nm i)))) := fun i hi => hcl i (nm i) (nms_at i hi)
  have HN : Aside (Nam w2 g) := n2
  clear h1 h2 o1 n2 hn7 hc7 hm7 hr7 hg71 hg72 hcl hl7 K1 K2
  go_wp2_with (go_at_call 12; refine (K5.out _ HA.out.2).mono ?_; rintro _ w3 ⟨rfl, h3⟩)
  go_loopg [23] 7 (fun gk vi wr => ∃ i : Nat, vi = .int .i64 (i : Int) ∧ i ≤ 7 ∧ 7 - i ≤ gk ∧ Aside (Stp [] w3 [] wr))
  case atStart => exact ⟨0, rfl, by omega, by omega, Stp.refl _ _⟩
  case round =>
    obtain ⟨i, rfl, hi7, hg, HS⟩ := hrel
    have hs3 : Stp [] w2 [] wr := h3.trans HS.out
    by_cases hlt : i < 7
    · have hltz : (i : Int) < 7 := by omega
      have e1 : wr.cell? ⟨g7, i, none⟩ = some (.string (st (nm i))) := hs3.keeps rfl (HC.out i hlt)
      have e2 : wr.cell? ⟨g, i, none⟩ = some (.string (st (nm i))) := hs3.keeps rfl (HN.out i hlt)
      have hq : ((st (nm i)).toList == (st (nm i)).toList) = true := st_yes rfl
      generalize st (nm i) = sn at *
      have mixed : Tryd.prog.follows Departure.mixedOrders = true := by kernel_rfl
      go_wp2_with fail
      go_region
      all_goals
        go_wp2
        go_roundg (7 - (i + 1))
        case measure => omega
        case rel => exact ⟨i + 1, by go_num, by omega, by omega, HS.out.trans (Stp.drew _ _)⟩
    · have hltz : ¬ (i : Int) < 7 := by omega
      have hA : Aside (At3 wr w.heap.size f m t ∧ Stp [] w [] wr) := ⟨HA.out.1.stays hs3, HA.out.2.trans hs3⟩
      clear HS HA HC HN hs3 h3 K5
      generalize w.heap.size = g0 at *
      have hk0 : Aside (∀ W, Stp [] wr [] W → Stp [] wr [] W ∧ W.cell? ⟨g0, 0, none⟩ = some (.int .u32 (f : Int)) ∧ W.cell? ⟨g0, 1, none⟩ = some (.int .u8 (m : Int)) ∧ W.cell? ⟨g0, 2, none⟩ = some (.int .u8 (t : Int))) :=
        fun W hs => ⟨hs, (hA.out.1.stays hs).cells.1, (hA.out.1.stays hs).cells.2.1, (hA.out.1.stays hs).cells.2.2.1⟩
      have hcur : Stp [] wr [] wr.drew := Stp.drew _ _
      have hbb : (b == b) = true := by cases b <;> rfl
      go_wp2_with fail
      go_region_held (fun W => Stp [] wr [] W ∧ W.cell? ⟨g0, 0, none⟩ = some (.int .u32 (f : Int)) ∧ W.cell? ⟨g0, 1, none⟩ = some (.int .u8 (m : Int)) ∧ W.cell? ⟨g0, 2, none⟩ = some (.int .u8 (t : Int)))
        (first | exact hk0.out _ hcur | assumption)
        (first
          | (go_at_call 13; refine (R1.out _).mono ?_; rintro _ x1 ⟨rfl, s1⟩; replace hcur := hcur.trans s1; clear s1)
          | (go_at_call 14; refine (R2.out _).mono ?_; rintro _ x2 ⟨rfl, s2⟩; replace hcur := hcur.trans s2; clear s2)
          | (go_at_call 15; refine (R3.out _).mono ?_; rintro _ x3 ⟨rfl, s3⟩; replace hcur := hcur.trans s3; clear s3)
          | (go_at_call 16; refine (R4.out _).mono ?_; rintro _ x4 ⟨rfl, s4⟩; replace hcur := hcur.trans s4; clear s4)
          | (go_at_call 17; refine (R5.out _).mono ?_; rintro _ x5 ⟨rfl, s5⟩; replace hcur := hcur.trans s5; clear s5)
          | (go_at_call 18; refine (R6.out _).mono ?_; rintro _ x6 ⟨rfl, s6⟩; replace hcur := hcur.trans s6; clear s6))
      all_goals
        go_wp2
        go_ret
        exact ⟨rfl, (hA.out.2.trans hcur).under⟩
end Go.Proofs.YtcjmnmcldppdhaaDoor
