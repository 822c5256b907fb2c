/-
  trace.Same, of the same effects.
-/
import Derived.Test.YthfiilhbgogoaaaGreatDoorEr
import Derived.Deep.RegionHeld3
namespace Go.Proofs.YthfiilhbgogoaaaGreatDoor
open Go.RowKit Go.Lib
set_option linter.unusedVariables false

theorem equal_run (a a' : Option Addr) (c c' : Nat) (l : List UInt8) (w : World) (h : Bts w a l) (h' : Bts w a' l) : Calls Tryz.prog 41 #[.slice a l.length c, .slice a' l.length c'] w (Gives (.bool true) w) := by
  refine (Tryz.bytes_Equal_strs _ _ (st l) (st l) w (conv_bts c _ h rfl) (conv_bts c' _ h' rfl)).mono ?_
  rintro e w' ⟨rfl, rfl⟩
  exact ⟨by rw [st_yes rfl], rfl⟩
set_option maxHeartbeats 1000000 in
set_option maxRecDepth 100000 in
theorem same_yes (k : Int) (f m t : Nat) (a a' : Option Addr) (c c' : Nat) (l : List UInt8) (n : Int) (ok : Bool) (w : World) (h : Bts w a l) (h' : Bts w a' l) :
    Calls Tryz.prog 26 #[.agg #[.int .i64 k, .int .u32 (f : Int), .int .u8 (m : Int), .int .u8 (t : Int), .slice a l.length c, .int .i64 n, .bool ok], .agg #[.int .i64 k, .int .u32 (f : Int), .int .u8 (m : Int), .int .u8 (t : Int), .slice a' l.length c', .int .i64 n, .bool ok]] w (Tells (.bool true) w) := by
  have KE : Hid (∀ W, Stp [] w [] W → Calls Tryz.prog 41 #[.slice a l.length c, .slice a' l.length c'] W (Gives (.bool true) W)) := Lib.hid fun W hs => equal_run a a' c c' l W (h.stays hs) (h'.stays hs)
  clear h h'
  go_enter Tryz.func26, Tryz.ntmps26
  go_wp2_with fail
  refine (KE.out _ ((Stp.alloc [] _ _).trans (Stp.alloc [] _ _))).mono ?_
  rintro _ w1 ⟨rfl, hw⟩
  have HS : Aside (Stp [] w [] w1) := by rw [hw]; exact (Stp.alloc [] _ _).trans (Stp.alloc [] _ _)
  subst hw
  go_wp2
  go_ret
  exact ⟨rfl, HS.out⟩
set_option maxHeartbeats 1000000 in
set_option maxRecDepth 100000 in
theorem eqf_run (a : Option Addr) (cap : Nat) (L : List Ev) (w : World) (hE : Er w a L) (hl : L.length ≤ 100000) :
    Calls Tryz.prog 25 #[.slice a L.length cap, .slice a L.length cap, .func (.func 26) #[] #[]] w (Tells (.bool true) w) := by
  have HE : Aside (Er w a L) := hE
  clear hE
  go_enter Tryz.func25, Tryz.ntmps25
  go_wp2
  go_loopg [17] L.length (fun gk v17 wr => ∃ i : Nat, v17 = .int .i64 (i : Int) ∧ i ≤ L.length ∧ L.length - i ≤ gk ∧ Aside (Stp [] w [] wr))
  case atStart => exact ⟨0, rfl, by omega, by omega, Stp.refl _ _⟩
  case round =>
    obtain ⟨i, rfl, hi, hg, HS⟩ := hrel
    by_cases hlt : i < L.length
    · have hltz : (i : Int) < (L.length : Int) := by omega
      obtain ⟨x, hx⟩ : ∃ x, L[i]? = some x := ⟨L[i], List.getElem?_eq_getElem hlt⟩
      obtain ⟨b, off, ha, hc⟩ := HE.out.2 (fun e => by simp [e] at hlt)
      subst ha
      obtain ⟨e0, e1, e2, e3, e4, e5, e6⟩ := (hc i x hx).stays HS.out
      have hbl : b < wr.heap.size := block_lt_of_cell e0
      have hbn : ¬ b = wr.heap.size := by omega
      have HD : Aside (Ed wr x) := (HE.out.1 x (List.mem_of_getElem? hx)).stays HS.out
      have KS : Hid (∀ W, Stp [] wr [] W → Calls Tryz.prog 26 #[.agg #[.int .i64 x.k, .int .u32 (x.f : Int), .int .u8 (x.m : Int), .int .u8 (x.t : Int), .slice x.a x.l.length x.c, .int .i64 x.n, .bool x.ok], .agg #[.int .i64 x.k, .int .u32 (x.f : Int), .int .u8 (x.m : Int), .int .u8 (x.t : Int), .slice x.a x.l.length x.c, .int .i64 x.n, .bool x.ok]] W (Tells (.bool true) W)) := Lib.hid fun W hs => same_yes _ _ _ _ _ _ _ _ _ _ _ W (HD.out.1.stays hs) (HD.out.1.stays hs)
      clear hc hx
      go_wp2_with fail
      refine (KS.out _ ((Stp.alloc [] _ _).trans (Stp.alloc [] _ _))).mono ?_
      rintro _ w5 ⟨rfl, h5⟩
      have H5 : Aside (Stp [] w [] w5) := (HS.out.trans ((Stp.alloc [] _ _).trans (Stp.alloc [] _ _))).trans h5
      clear h5 e0 e1 e2 e3 e4 e5 e6
      go_wp2
      go_roundg (L.length - (i + 1))
      case measure => omega
      case rel => exact ⟨i + 1, by go_num, by omega, by omega, H5.out⟩
    · have hltz : ¬ (i : Int) < (L.length : Int) := by omega
      go_wp2
      go_ret
      exact ⟨rfl, HS.out⟩
set_option maxRecDepth 100000 in
theorem sameL_run (a : Option Addr) (cap : Nat) (L : List Ev) (w : World) (hE : Er w a L) (hl : L.length ≤ 100000) :
    Calls Tryz.prog 12 #[.slice a L.length cap, .slice a L.length cap] w (Tells (.bool true) w) := by
  have K := Lib.hid (eqf_run a cap L w hE hl)
  clear hE
  go_enter Tryz.func12, Tryz.ntmps12
  go_wp2_with fail
  refine K.out.mono ?_
  rintro _ w1 ⟨rfl, h1⟩
  go_wp2
  go_ret
  exact ⟨rfl, h1⟩
end Go.Proofs.YthfiilhbgogoaaaGreatDoor
