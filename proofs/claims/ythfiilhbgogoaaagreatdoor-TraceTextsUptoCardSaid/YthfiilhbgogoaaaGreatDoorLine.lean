/-
  The line of an effect, by the forms.
-/
import Derived.Test.YthfiilhbgogoaaaGreatDoorWl
import Derived.Test.YthfiilhbgogoaaaGreatDoorTread
import Derived.Deep.RegionHeld3
import Derived.Deep.DeepCutAuto
import Derived.Deep.CutBlock
namespace Go.Proofs.YthfiilhbgogoaaaGreatDoor
open Go.RowKit Go.Lib
set_option linter.unusedVariables false

/-- The line, and the error. -/
def lnE (x : Ev) : List UInt8 × Int := if x.k < 0 ∨ 7 ≤ x.k then ([], 9) else match FL[x.k.toNat]? with
  | none => ([], 9)
  | some nk => if x.n < 0 ∨ bare (offs nk.2 x) = false then ([], 8) else (nk.1 ++ wks nk.2 x, 0)
theorem FL_nm : ∀ nk ∈ FL, nk.1.length ≤ 10 := by
  intro nk h
  simp [FL] at h
  rcases h with rfl | rfl | rfl | rfl | rfl | rfl | rfl <;> simp
set_option maxHeartbeats 1000000 in
set_option maxRecDepth 100000 in
theorem line_run (X : List (Nat × Nat)) (ga : Nat) (x : Ev) (h1 : Ok x.f x.m x.t) (h2 : x.n ≤ 9223372036854775807) (h3 : x.l.length ≤ 100000) (w : World) (hT : Tabs w) (hX : AllAt w X) (hg : w.heap[ga]? = some (.cells (closures X).toArray 52 (0, 0))) (hd : Ed w x) :
    Calls Tryz.prog 17 #[.pointer (some ⟨ga, 0, none⟩), .agg #[.int .i64 x.k, .int .u32 (x.f : Int), .int .u8 (x.m : Int), .int .u8 (x.t : Int), .slice x.a x.l.length x.c, .int .i64 x.n, .bool x.ok]] w (Tells (.tuple #[.string (st (lnE x).1), .int .i64 (lnE x).2]) w) := by
  have hgl : ga < w.heap.size := (Array.getElem?_eq_some_iff.1 hg).1
  have hgn : ¬ ga = w.heap.size := by omega
  by_cases hlow : x.k < 0
  · have HV : Aside (lnE x = ([], 9)) := by
      show lnE x = _
      unfold lnE
      rw [if_pos (.inl hlow)]
    clear hT hX hg hd
    go_enter Tryz.func17, Tryz.ntmps17
    go_wp2
    go_ret2
    exact ⟨by rw [HV.out]; rfl, Stp.alloc _ _ _⟩
  by_cases hhi : 7 ≤ x.k
  · have HV : Aside (lnE x = ([], 9)) := by
      show lnE x = _
      unfold lnE
      rw [if_pos (.inr hhi)]
    clear hT hX hg hd
    go_enter Tryz.func17, Tryz.ntmps17
    go_wp2
    go_ret2
    exact ⟨by rw [HV.out]; rfl, Stp.alloc _ _ _⟩
  obtain ⟨i, hi⟩ := Int.eq_ofNat_of_zero_le (show 0 ≤ x.k by omega)
  have hi7 : i < 7 := by omega
  obtain ⟨q, hq⟩ : ∃ q, X[i]? = some q := ⟨X[i]'(by rw [hX.1]; omega), List.getElem?_eq_getElem _⟩
  obtain ⟨nk, hnk⟩ : ∃ nk, FL[i]? = some nk := ⟨FL[i]'(by rw [FL_len]; omega), List.getElem?_eq_getElem _⟩
  have hL : lnE x = if x.n < 0 ∨ bare (offs nk.2 x) = false then ([], 8) else (nk.1 ++ wks nk.2 x, 0) := by
    unfold lnE
    rw [if_neg (by omega), hi]
    simp only [Int.toNat_natCast, hnk]
  have hcc := closures_at X i q hq
  rw [Nat.mul_comm] at hcc
  have e1 : w.cell? ⟨ga, i * 2, none⟩ = some (wF q.1 q.2) := by
    rw [cell_of_row w ga _ _ _ _ hg]
    simpa using hcc.1
  have HT : Aside (Tabs w ∧ AllAt w X ∧ Ed w x) := ⟨hT, hX, hd⟩
  have KW : Hid (∀ W, Stp [] w [] W → Calls Tryz.prog 42 #[.agg #[.int .i64 x.k, .int .u32 (x.f : Int), .int .u8 (x.m : Int), .int .u8 (x.t : Int), .slice x.a x.l.length x.c, .int .i64 x.n, .bool x.ok], .pointer (some ⟨q.1, 0, none⟩), .pointer (some ⟨q.2, 0, none⟩)] W (Tells (lnv nk.1 nk.2 x) W)) := Lib.hid fun W hs => wform_run nk.1 nk.2 q x (FL_ks nk (List.mem_of_getElem? hnk)) (FL_nm nk (List.mem_of_getElem? hnk)) h1 h2 h3 W (HT.out.1.stays hs) ((HT.out.2.1.stays hs).2 i q nk hq hnk) (HT.out.2.2.stays hs)
  unfold wF at e1
  clear hcc hg hT hX hd hq hnk h1 h2 h3
  rw [hi] at KW hlow hhi ⊢
  obtain ⟨z, b, hlv, hlr⟩ : ∃ (z : List UInt8) (b : Bool), lnv nk.1 nk.2 x = .tuple #[.string (st z), .bool b] ∧ lnE x = (if b then (z, 0) else ([], 8)) := by
    rw [hL]
    unfold lnv
    by_cases hn : x.n < 0
    · exact ⟨[], false, by rw [if_pos hn], by rw [if_pos (.inl hn)]; rfl⟩
    · refine ⟨nk.1 ++ wks nk.2 x, bare (offs nk.2 x), by rw [if_neg hn], ?_⟩
      cases hb : bare (offs nk.2 x)
      · rw [if_pos (.inr rfl)]
        rfl
      · rw [if_neg (by simp [hn])]
        rfl
  rw [hlv] at KW
  clear hL hlv
  have H0 : Aside (EAt (w.alloc (.cells #[.int .i64 (i : Int), .int .u32 (x.f : Int), .int .u8 (x.m : Int), .int .u8 (x.t : Int), .slice x.a x.l.length x.c, .int .i64 x.n, .bool x.ok] 43)) w.heap.size (i : Int) x.f x.m x.t (.slice x.a x.l.length x.c) x.n x.ok ∧ Stp [] w [] (w.alloc (.cells #[.int .i64 (i : Int), .int .u32 (x.f : Int), .int .u8 (x.m : Int), .int .u8 (x.t : Int), .slice x.a x.l.length x.c, .int .i64 x.n, .bool x.ok] 43))) := ⟨heap_alloc_new _ _, Stp.alloc _ _ _⟩
  have e2 := (Stp.alloc [] w (.cells #[.int .i64 (i : Int), .int .u32 (x.f : Int), .int .u8 (x.m : Int), .int .u8 (x.t : Int), .slice x.a x.l.length x.c, .int .i64 x.n, .bool x.ok] 43)).keepsAny e1
  go_enter Tryz.func17, Tryz.ntmps17
  cases b
  all_goals
    have HL : Aside (lnE x = _) := hlr
    clear hlr
    go_upto_region 3 with fail
    generalize w.alloc (.cells #[.int .i64 (i : Int), .int .u32 (x.f : Int), .int .u8 (x.m : Int), .int .u8 (x.t : Int), .slice x.a x.l.length x.c, .int .i64 x.n, .bool x.ok] 43) = w1 at *
    generalize w.heap.size = ge at *
    have hk0 : Aside (∀ W, Stp [] w1 [] W → W.cell? ⟨ge, 0, none⟩ = some (.int .i64 (i : Int)) ∧ W.cell? ⟨ge, 1, none⟩ = some (.int .u32 (x.f : Int)) ∧ W.cell? ⟨ge, 2, none⟩ = some (.int .u8 (x.m : Int)) ∧ W.cell? ⟨ge, 3, none⟩ = some (.int .u8 (x.t : Int)) ∧ W.cell? ⟨ge, 4, none⟩ = some (.slice x.a x.l.length x.c) ∧ W.cell? ⟨ge, 5, none⟩ = some (.int .i64 x.n) ∧ W.cell? ⟨ge, 6, none⟩ = some (.bool x.ok) ∧ W.cell? ⟨ga, i * 2, none⟩ = some (.func (.func 42) #[] #[.pointer (some ⟨q.1, 0, none⟩), .pointer (some ⟨q.2, 0, none⟩)])) := fun W hs => ⟨hs.keepsAny H0.out.1.c0, hs.keepsAny H0.out.1.c1, hs.keepsAny H0.out.1.c2, hs.keepsAny H0.out.1.c3, hs.keepsAny H0.out.1.c4, hs.keepsAny H0.out.1.c5, hs.keepsAny H0.out.1.c6, hs.keepsAny e2⟩
    have hcur : Stp [] w1 [] w1.drew := Stp.drew _ _
    have b0 : (0 : Int) ≤ (i : Int) := by omega
    have b1 : (i : Int) < 7 := by omega
    have b2 : ((i : Int)).toNat = i := by omega
    clear e1 e2
    go_region_held3 (fun W => W.cell? ⟨ge, 0, none⟩ = some (.int .i64 (i : Int)) ∧ W.cell? ⟨ge, 1, none⟩ = some (.int .u32 (x.f : Int)) ∧ W.cell? ⟨ge, 2, none⟩ = some (.int .u8 (x.m : Int)) ∧ W.cell? ⟨ge, 3, none⟩ = some (.int .u8 (x.t : Int)) ∧ W.cell? ⟨ge, 4, none⟩ = some (.slice x.a x.l.length x.c) ∧ W.cell? ⟨ge, 5, none⟩ = some (.int .i64 x.n) ∧ W.cell? ⟨ge, 6, none⟩ = some (.bool x.ok) ∧ W.cell? ⟨ga, i * 2, none⟩ = some (.func (.func 42) #[] #[.pointer (some ⟨q.1, 0, none⟩), .pointer (some ⟨q.2, 0, none⟩)]))
        (first | with_reducible exact hk0.out _ hcur | assumption)
        (first
          | (go_at_call 42; refine (KW.out _ (H0.out.2.trans hcur)).mono ?_; rintro _ w5 ⟨rfl, h5⟩; replace hcur := hcur.trans h5; clear h5))
    all_goals
      go_wp2
      go_ret2
      exact ⟨by rw [HL.out]; rfl, H0.out.2.trans hcur⟩
end Go.Proofs.YthfiilhbgogoaaaGreatDoor
