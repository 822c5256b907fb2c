/-
  The document's example.
-/
import Derived.Test.YtmhecgidhdbcgaaSum
namespace Go.Proofs.Ytmhecgidhdbcgaa
open Go.RowKit Go.Lib Go.Maps
set_option linter.unusedVariables false

theorem make_at {W : World} {F : List Nat} {r m : Nat} {v : Value} {D : DataW Unit} {L : List Ent} (h : Rx W F r m v D L) (s : ByteArray) (hs : s.size ≤ maxLen) (z : Int) (n : Nat) (hz : z = (n : Int)) (hc : refuse L s = 0) (h1 : 1 ≤ n) (h2 : n ≤ 4096) :
    Calls Try.prog 10 #[.pointer (some ⟨r, 0, none⟩), .string s, .int .i64 z] W (Made W F r L s n) := by
  subst hz
  exact make_yes h s hs n hc h1 h2
theorem cells_at {W : World} {F : List Nat} {r m : Nat} {v : Value} {D : DataW Unit} {L : List Ent} (h : Rx W F r m v D L) (z : Int) (hz : ((L.map Ent.N).sum : Nat) = z) :
    Calls Try.prog 16 #[.pointer (some ⟨r, 0, none⟩)] W (Tells (.int .i64 z) W) := by
  subst hz
  exact cellsr_run h

set_option maxRecDepth 100000 in
set_option maxHeartbeats 1000000 in
theorem aliver_run (w : World) : Calls Try.prog 9 #[] w (Tells (.bool true) w) := by
  have K1 := Lib.hid (newr_run w)
  go_enter Try.func9, Try.ntmps9
  go_wp2_with fail
  refine K1.out.mono ?_
  rintro _ w1 ⟨r, F1, rfl, ⟨m1, v1, D1, X1⟩, st1⟩
  have K2 := Lib.hid (make_at X1 ⟨#[97]⟩ (by decide) 5 5 rfl (by simp [refuse]) (by omega) (by omega))
  clear K1 X1
  go_wp2_with fail
  refine K2.out.mono ?_
  rintro _ w2 ⟨b2, g2, F2, rfl, ⟨m2, v2, D2, X2⟩, st2, _, _⟩
  have K3 := Lib.hid (make_at X2 ⟨#[98]⟩ (by decide) 3 3 rfl (by simp [refuse]) (by omega) (by omega))
  clear K2 X2
  go_wp2_with fail
  refine K3.out.mono ?_
  rintro _ w3 ⟨b3, g3, F3, rfl, ⟨m3, v3, D3, X3⟩, st3, _, _⟩
  have K4 := Lib.hid (make_no X3 ⟨#[97]⟩ (by decide) 1 11 (by simp [refuse]) (by decide))
  have K5 := Lib.hid (names_run X3)
  have HX := Lib.hid X3
  have HS := Lib.hid ((st1.trans st2).trans st3).none
  clear K3 X3 st1 st2 st3
  go_wp2_with fail
  refine K4.out.mono ?_
  rintro _ w3 ⟨rfl, rfl⟩
  clear K4
  go_wp2_with fail
  refine K5.out.mono ?_
  rintro _ w5 ⟨v5, rfl, ho5, st5⟩
  have ho : SOwn w5 w3.heap.size v5 [⟨#[97]⟩, ⟨#[98]⟩] := ho5
  obtain ⟨a5, cap5, hv5, hnil, _, _, hc⟩ := ho.form
  rcases a5 with _ | ad
  · have := (hnil rfl).2
    simp at this
  · obtain ⟨g5, rfl, _, hg5, _, hc5⟩ := hc ad rfl
    have c50 : w5.cell? ⟨g5, 0, none⟩ = some (.string ⟨#[97]⟩) := hc5 0 (by simp)
    have c51 : w5.cell? ⟨g5, 1, none⟩ = some (.string ⟨#[98]⟩) := hc5 1 (by simp)
    have K6 := Lib.hid (cells_at (HX.out.stays st5) 8 rfl)
    have H5 := Lib.hid st5
    have hv6 : v5 = .slice (some ⟨g5, 0, none⟩) 2 cap5 := hv5
    clear K5 ho ho5 hnil hc hc5 hv5 st5
    subst hv6
    go_wp2_with (first
      | (go_at_call 16
         refine K6.out.mono ?_
         rintro _ w6 ⟨rfl, st6⟩
         have c60 : w6.cell? ⟨g5, 0, none⟩ = some (.string ⟨#[97]⟩) := (st6.cell (a := ⟨g5, 0, none⟩) hg5 (fun h => by cases h)).trans c50
         have c61 : w6.cell? ⟨g5, 1, none⟩ = some (.string ⟨#[98]⟩) := (st6.cell (a := ⟨g5, 1, none⟩) hg5 (fun h => by cases h)).trans c51
         have H6 := Lib.hid st6
         clear st6 c50 c51))
    go_ret
    exact ⟨rfl, (HS.out.trans H5.out).trans H6.out⟩
end Go.Proofs.Ytmhecgidhdbcgaa
