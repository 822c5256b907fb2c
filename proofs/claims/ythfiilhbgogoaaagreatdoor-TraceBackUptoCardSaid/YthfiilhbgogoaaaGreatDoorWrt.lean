/-
  trace.Written.
-/
import Derived.Test.YthfiilhbgogoaaaGreatDoorEr
namespace Go.Proofs.YthfiilhbgogoaaaGreatDoor
open Go.RowKit Go.Lib
set_option linter.unusedVariables false

/-- What one effect wrote. -/
def wr1 (x : Ev) : List UInt8 := if x.k = 2 then x.l.take (min (max x.n 0) (x.l.length : Int)).toNat else []
def wrt (L : List Ev) : List UInt8 := L.flatMap wr1
def Wrt (l : List UInt8) (w : World) (e : Ending) (w' : World) : Prop := ∃ v, e = .returned v ∧ Own w' w.heap.size v l ∧ Stp [] w [] w'
theorem wrt_snoc (L : List Ev) (i : Nat) (x : Ev) (h : L[i]? = some x) : wrt (L.take (i + 1)) = wrt (L.take i) ++ wr1 x := by
  obtain ⟨hi, e⟩ := List.getElem?_eq_some_iff.1 h
  rw [List.take_succ_eq_append_getElem hi, e]
  simp [wrt]
theorem wrt_take_le (L : List Ev) (i : Nat) : (wrt (L.take i)).length ≤ (wrt L).length := by
  have h : wrt L = wrt (L.take i) ++ wrt (L.drop i) := by
    have := congrArg wrt (List.take_append_drop i L)
    simp only [wrt, List.flatMap_append] at this
    exact this.symm
  rw [h]
  simp
set_option maxHeartbeats 1000000 in
set_option maxRecDepth 100000 in
theorem written_run (a : Option Addr) (cap : Nat) (L : List Ev) (w : World) (hE : Er w a L) (hl : L.length ≤ 100000) (hb : (wrt L).length ≤ 900000) :
    Calls Tryz.prog 13 #[.slice a L.length cap] w (Wrt (wrt L) w) := by
  have HE : Aside (Er w a L) := hE
  clear hE
  go_enter Tryz.func13, Tryz.ntmps13
  go_wp2
  go_loopg [3, 8] L.length (fun gk v3 v8 wr => ∃ i : Nat, v8 = .int .i64 (i : Int) ∧ i ≤ L.length ∧ L.length - i ≤ gk ∧ Aside (Own wr w.heap.size v3 (wrt (L.take i)) ∧ Stp [] w [] wr))
  case atStart => exact ⟨0, rfl, by omega, by omega, Own.nil _ _, Stp.refl _ _⟩
  case round =>
    obtain ⟨i, rfl, hi, hg, HS⟩ := hrel
    obtain ⟨a3, c3, hv3, _, _, _, _⟩ := HS.out.1.bts
    subst hv3
    by_cases hlt : i < L.length
    · have hltz : (i : Int) < (L.length : Int) := by omega
      obtain ⟨x, hx⟩ : ∃ x, L[i]? = some x := ⟨L[i], List.getElem?_eq_getElem hlt⟩
      obtain ⟨b, off, ha, hc⟩ := HE.out.2 (fun e => by simp [e] at hlt)
      subst ha
      obtain ⟨e0, e1, e2, e3, e4, e5, e6⟩ := (hc i x hx).stays HS.out.2
      have hsn := wrt_snoc L i x hx
      have hle1 := wrt_take_le L (i + 1)
      rw [hsn, List.length_append] at hle1
      have HD : Aside (Ed wr x) := (HE.out.1 x (List.mem_of_getElem? hx)).stays HS.out.2
      clear hc
      by_cases hk : x.k = 2
      · have hkb : (x.k == 2) = true := by rw [hk]; rfl
        obtain ⟨m, hm⟩ := Int.eq_ofNat_of_zero_le (show 0 ≤ min (max x.n 0) (x.l.length : Int) by omega)
        have hml : m ≤ x.l.length := by omega
        have hw1 : wr1 x = x.l.take m := by
          unfold wr1
          rw [if_pos hk, hm]
          rfl
        rw [hw1] at hsn hle1
        have hcut : ∀ W, (Instr.slice 35 (.slice x.a x.l.length x.c) none (some (.int .i64 (m : Int))) none).run Tryz.prog W = .ok (.slice x.a m x.c) W := fun W => cut_h _ _ _ m (by have := HD.out.2.1; omega) W
        have HP : Aside (wrt (L.take (i + 1)) = wrt (L.take i) ++ x.l.take m ∧ (wrt (L.take i)).length + (x.l.take m).length ≤ 900000) := ⟨hsn, by omega⟩
        have HTL : Aside (m = (x.l.take m).length) := by
          show m = (x.l.take m).length
          rw [List.length_take]
          omega
        clear hsn hle1 hw1 hx hk
        have H2 : Aside (∀ o : Obj, Own (wr.alloc o) w.heap.size (.slice a3 (wrt (L.take i)).length c3) (wrt (L.take i)) ∧ Stp [] w [] (wr.alloc o) ∧ Bts (wr.alloc o) x.a (x.l.take m)) := fun o => ⟨HS.out.1.other (Stp.alloc [] _ _) (by simp), HS.out.2.trans (Stp.alloc [] _ _), by
          have := (HD.out.1.stays (Stp.alloc [] wr o)).cut (i := 0) (j := m) (N := x.c) (by omega) hml HD.out.2.1
          have e : cutp x.a 0 x.c = x.a := by
            unfold cutp
            split
            · rfl
            · rcases x.a with _ | ⟨q, r, sp⟩ <;> simp [Addr.add]
          rw [e] at this
          simpa using this⟩
        go_wp2_with (at_builtin
                     refine wpList_app rfl (.tmp 15) (.tmp 25) rfl w.heap.size (.slice a3 (wrt (L.take i)).length c3) (wrt (L.take i)) rfl (H2.out _).1 x.a x.c m (x.l.take m) HTL.out rfl (H2.out _).2.2 HD.out.2.2 (by have := HP.out.2; omega) (by have := (H2.out (.cells #[] 0)).2.1.size; simp at this ⊢; omega) ?_
                     intro v' w' ho' hg'
                     have HQ : Aside (Own w' w.heap.size v' (wrt (L.take i) ++ x.l.take m) ∧ Stp [] w [] w') := ⟨ho', (H2.out _).2.1.app hg' (fun k hk => (HS.out.1.lt k hk).1)⟩
                     clear ho' hg')
        go_roundg (L.length - (i + 1))
        case measure => omega
        case rel => exact ⟨i + 1, by go_num, by omega, by omega, by rw [HP.out.1]; exact HQ.out.1, HQ.out.2⟩
      · have hkb : (x.k == 2) = false := beq_eq_false_iff_ne.2 hk
        have hw1 : wr1 x = [] := by
          unfold wr1
          rw [if_neg hk]
        rw [hw1, List.append_nil] at hsn
        have HP : Aside (wrt (L.take (i + 1)) = wrt (L.take i)) := hsn
        clear hsn hle1 hw1 hx
        go_wp2
        go_roundg (L.length - (i + 1))
        case measure => omega
        case rel => exact ⟨i + 1, by go_num, by omega, by omega, by rw [HP.out]; exact HS.out.1.other (Stp.alloc [] _ _) (by simp), HS.out.2.trans (Stp.alloc [] _ _)⟩
    · have hltz : ¬ (i : Int) < (L.length : Int) := by omega
      obtain rfl : i = L.length := by omega
      have HP : Aside (wrt (L.take L.length) = wrt L) := by
        show wrt (L.take L.length) = wrt L
        rw [List.take_length]
      go_wp2
      go_ret
      exact ⟨_, rfl, by rw [← HP.out]; exact HS.out.1, HS.out.2⟩
end Go.Proofs.YthfiilhbgogoaaaGreatDoor
