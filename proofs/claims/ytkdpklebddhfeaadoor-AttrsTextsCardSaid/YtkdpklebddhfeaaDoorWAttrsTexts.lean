/-
  AttrsTexts's walk.
-/
import Derived.Test.YtkdpklebddhfeaaDoorAlive
import Derived.Test.YtkdpklebddhfeaaDoorRefH
namespace Go.Proofs.YtkdpklebddhfeaaDoor
open Go.RowKit Go.Lib
set_option linter.unusedVariables false

set_option maxHeartbeats 1000000 in
set_option maxRecDepth 100000 in
theorem texts_long (f m t : Nat) (s : ByteArray) (w : World) (hs : 500 < s.size) (hm : s.size ≤ maxLen) (hT : Tabs w) : Calls Tryd.prog 3 #[av f m t, .string s] w (Truth w) := by
  have HT : Aside (Tabs w) := hT
  have K : ∀ W, Stp [] w [] W → Calls Tryd.prog 5 #[] W (Tells (.bool true) W) := fun W hs => alive_run W (HT.out.stays hs)
  have HK := Lib.hid K
  have hz : (500 : Int) < (s.size : Int) := by omega
  clear hT K hs hm
  unfold av
  go_enter Tryd.func3, Tryd.ntmps3
  go_wp2_with fail
  refine (HK.out _ (Stp.alloc [] _ _)).mono ?_
  rintro _ w1 ⟨rfl, h1⟩
  go_wp2
  go_ret
  exact ⟨rfl, ((Stp.alloc [] _ _).trans h1).under⟩
set_option maxHeartbeats 4000000 in
set_option maxRecDepth 100000 in
theorem texts_short (f m t : Nat) (l : List UInt8) (w : World) (ho : Ok f m t) (hs : l.length ≤ 500) (hT : Tabs w) : Calls Tryd.prog 3 #[av f m t, .string (st l)] w (Truth w) := by
  have HT : Aside (Tabs w) := hT
  have K1 : Hid (∀ W, Stp [] w [] W → Calls Tryd.prog 8 #[.agg #[.int .u32 (f : Int), .int .u8 (m : Int), .int .u8 (t : Int)]] W (Tells (.string (st (text f m t))) W)) := Lib.hid fun W hs => text_run ho W (HT.out.stays hs)
  have K2 : Hid (∀ W, Calls Tryd.prog 9 #[.agg #[.int .u32 (f : Int), .int .u8 (m : Int), .int .u8 (t : Int)]] W (Tells (.string (st (text f m t))) W)) := Lib.hid fun W => rtext_run ho W
  have KA : Hid (∀ W, Stp [] w [] W → Calls Tryd.prog 6 #[.string (st l)] W (Tells (rv l) W)) := Lib.hid fun W hs => read_run l (by omega) W (HT.out.stays hs)
  have KB : Hid (∀ W, Calls Tryd.prog 7 #[.string (st l)] W (Tells (rv l) W)) := Lib.hid fun W => rread_run l (by omega) W
  have K5 : Hid (∀ W, Stp [] w [] W → Calls Tryd.prog 5 #[] W (Tells (.bool true) W)) := Lib.hid fun W hs => alive_run W (HT.out.stays hs)
  have hsz := st_size l
  have hz : ¬ (500 : Int) < (l.length : Int) := by omega
  have hq : ((st (text f m t)).toList == (st (text f m t)).toList) = true := st_yes rfl
  obtain ⟨F, M, T, z, hrv, hz0, hz8⟩ : ∃ F M T : Nat, ∃ z : Int, rv l = .tuple #[.agg #[.int .u32 (F : Int), .int .u8 (M : Int), .int .u8 (T : Int)], .int .i64 z] ∧ 0 ≤ z ∧ z ≤ 8 := by
    rcases rv_cases l with ⟨F, M, T, _, _, h⟩ | ⟨_, h⟩
    · exact ⟨F, M, T, 0, h, by omega, by omega⟩
    · exact ⟨0, 0, 0, 8, h, by omega, by omega⟩
  rw [hrv] at KA KB
  clear hT ho hs hrv
  unfold av
  generalize st (text f m t) = ta at *
  generalize st l = sl at *
  go_enter Tryd.func3, Tryd.ntmps3
  go_wp2_with fail
  refine (KA.out _ (Stp.alloc [] _ _)).mono ?_
  rintro _ w1 ⟨rfl, h1⟩
  have H1 : Aside (At3 w1 w.heap.size f m t ∧ Stp [] w [] w1) := ⟨(At3.new w f m t).stays h1, (Stp.alloc [] w _).trans h1⟩
  clear h1
  generalize w.heap.size = ga at *
  go_wp2_with fail
  refine (KB.out _).mono ?_
  rintro _ w2 ⟨rfl, h2⟩
  go_wp2_with fail
  have H3 : Aside (At3 (w2.alloc (.cells #[.int .u32 (F : Int), .int .u8 (M : Int), .int .u8 (T : Int)] 24)) ga f m t ∧ At3 (w2.alloc (.cells #[.int .u32 (F : Int), .int .u8 (M : Int), .int .u8 (T : Int)] 24)) w1.heap.size F M T ∧ At3 (w2.alloc (.cells #[.int .u32 (F : Int), .int .u8 (M : Int), .int .u8 (T : Int)] 24)) w2.heap.size F M T ∧ Stp [] w [] (w2.alloc (.cells #[.int .u32 (F : Int), .int .u8 (M : Int), .int .u8 (T : Int)] 24))) :=
    ⟨((H1.out.1.stays (Stp.alloc [] _ _)).stays h2).stays (Stp.alloc [] _ _), ((At3.new w1 F M T).stays h2).stays (Stp.alloc [] _ _), At3.new w2 F M T, ((H1.out.2.trans (Stp.alloc [] _ _)).trans h2).trans (Stp.alloc [] _ _)⟩
  generalize w2.alloc (.cells #[.int .u32 (F : Int), .int .u8 (M : Int), .int .u8 (T : Int)] 24) = w3 at *
  generalize w2.heap.size = gc at *
  generalize w1.heap.size = gb at *
  clear H1 h2 KA KB hsz hz
  have hk0 : Aside (∀ W, Stp [] w3 [] W → Stp [] w3 [] W ∧ W.cell? ⟨ga, 0, none⟩ = some (.int .u32 (f : Int)) ∧ W.cell? ⟨ga, 1, none⟩ = some (.int .u8 (m : Int)) ∧ W.cell? ⟨ga, 2, none⟩ = some (.int .u8 (t : Int)) ∧ W.cell? ⟨gb, 0, none⟩ = some (.int .u32 (F : Int)) ∧ W.cell? ⟨gb, 1, none⟩ = some (.int .u8 (M : Int)) ∧ W.cell? ⟨gb, 2, none⟩ = some (.int .u8 (T : Int)) ∧ W.cell? ⟨gc, 0, none⟩ = some (.int .u32 (F : Int)) ∧ W.cell? ⟨gc, 1, none⟩ = some (.int .u8 (M : Int)) ∧ W.cell? ⟨gc, 2, none⟩ = some (.int .u8 (T : Int))) :=
    fun W hs => ⟨hs, (H3.out.1.stays hs).cells.1, (H3.out.1.stays hs).cells.2.1, (H3.out.1.stays hs).cells.2.2.1, (H3.out.2.1.stays hs).cells.1, (H3.out.2.1.stays hs).cells.2.1, (H3.out.2.1.stays hs).cells.2.2.1, (H3.out.2.2.1.stays hs).cells.1, (H3.out.2.2.1.stays hs).cells.2.1, (H3.out.2.2.1.stays hs).cells.2.2.1⟩
  have hcur : Stp [] w3 [] w3.drew := Stp.drew _ _
  go_region_held (fun W => Stp [] w3 [] W ∧ W.cell? ⟨ga, 0, none⟩ = some (.int .u32 (f : Int)) ∧ W.cell? ⟨ga, 1, none⟩ = some (.int .u8 (m : Int)) ∧ W.cell? ⟨ga, 2, none⟩ = some (.int .u8 (t : Int)) ∧ W.cell? ⟨gb, 0, none⟩ = some (.int .u32 (F : Int)) ∧ W.cell? ⟨gb, 1, none⟩ = some (.int .u8 (M : Int)) ∧ W.cell? ⟨gb, 2, none⟩ = some (.int .u8 (T : Int)) ∧ W.cell? ⟨gc, 0, none⟩ = some (.int .u32 (F : Int)) ∧ W.cell? ⟨gc, 1, none⟩ = some (.int .u8 (M : Int)) ∧ W.cell? ⟨gc, 2, none⟩ = some (.int .u8 (T : Int)))
    (first | exact hk0.out _ hcur | assumption)
    (first
      | (go_at_call 5; refine (K5.out _ (H3.out.2.2.2.trans hcur)).mono ?_; rintro _ w4 ⟨rfl, s4⟩; replace hcur := hcur.trans s4; clear s4)
      | (go_at_call 8; refine (K1.out _ (H3.out.2.2.2.trans hcur)).mono ?_; rintro _ w5 ⟨rfl, s5⟩; replace hcur := hcur.trans s5; clear s5)
      | (go_at_call 9; refine (K2.out _).mono ?_; rintro _ w6 ⟨rfl, s6⟩; replace hcur := hcur.trans s6; clear s6))
  all_goals
    go_wp2_with fail
    go_ret
    exact ⟨rfl, (H3.out.2.2.2.trans hcur).under⟩
theorem texts_walk (f m t : Nat) (s : ByteArray) (w : World) (ho : Ok f m t) (hm : s.size ≤ maxLen) (hT : Tabs w) : Calls Tryd.prog 3 #[av f m t, .string s] w (Truth w) := by
  rcases Nat.lt_or_ge 500 s.size with h | h
  · exact texts_long f m t s w h hm hT
  · have hl : s.data.toList.length ≤ 500 := by rw [← size_eq]; exact h
    have := texts_short f m t s.data.toList w ho hl hT
    rw [st_of] at this
    exact this
end Go.Proofs.YtkdpklebddhfeaaDoor
