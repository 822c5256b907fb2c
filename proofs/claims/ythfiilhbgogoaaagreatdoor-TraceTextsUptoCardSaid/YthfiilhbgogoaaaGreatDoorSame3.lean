import Derived.Test.YthfiilhbgogoaaaGreatDoorEr
import Derived.Test.YthfiilhbgogoaaaGreatDoorLaid
import Derived.Test.YthfiilhbgogoaaaGreatDoorCards
import Derived.Test.YthfiilhbgogoaaaGreatDoorTie
import Derived.ChangeOld
import Derived.ChangeSlices
import Derived.ChangeMaps5
import Derived.Carry
import Derived.Deep.Slices
import Derived.Deep.Strs
import Derived.SizedLaws
import Derived.Shelf.Strings.BuilderK
import Derived.Test.YthfiilhbgogoaaaGreatDoorLine
import Derived.Test.YthfiilhbgogoaaaGreatDoorRefRb
import Derived.Test.YthfiilhbgogoaaaGreatDoorSame
import Derived.Test.YthfiilhbgogoaaaGreatDoorRefLok
import Derived.Test.YthfiilhbgogoaaaGreatDoorRefRe
import Derived.Test.YthfiilhbgogoaaaGreatDoorRefRg
/-
  From a row's reading of effects, of bytes and of a text to the lists of them.
-/
namespace Go.Proofs.YthfiilhbgogoaaaGreatDoor
open Go.ChangeShapes Go.WideShapes Go.ChangeAt Go.RowKit Go.Lib Go.Deep
set_option linter.unusedVariables false

theorem u8_nat {z : Int} (h : (Lit.int .u8 z).wf = true) : ∃ n : Nat, z = (n : Int) ∧ n < 256 := by
  simp [Lit.wf, IntKind.min, IntKind.max, IntKind.signed, IntKind.bits] at h
  exact ⟨z.toNat, by omega, by omega⟩
theorem u32_nat {z : Int} (h : (Lit.int .u32 z).wf = true) : ∃ n : Nat, z = (n : Int) ∧ n < 4294967296 := by
  simp [Lit.wf, IntKind.min, IntKind.max, IntKind.signed, IntKind.bits] at h
  exact ⟨z.toNat, by omega, by omega⟩
theorem cAttrs : Tryz.prog.cellsOf 41 = 3 := by kernel_rfl
theorem cEff : Tryz.prog.cellsOf 43 = 7 := by kernel_rfl
theorem cInt : Tryz.prog.cellsOf 3 = 1 := by kernel_rfl
theorem cBool : Tryz.prog.cellsOf 4 = 1 := by kernel_rfl
theorem cSl : Tryz.prog.cellsOf 35 = 1 := by kernel_rfl
section
variable {H : Type} {enc : TypeId × Value → H}
set_option maxRecDepth 100000 in
theorem open_bytes_at {W : World} {fuel : Nat} {a : Option Addr} {len cap : Nat} {y : DataW H × List MemPlace} (hf : DataW.trod enc Tryz.prog W 0 (fun _ => true) true fuel 35 [.slice a len cap] = some y) :
    ∃ l : List UInt8, len = l.length ∧ Bts W a l ∧ l.length ≤ cap ∧ cap ≤ maxLen ∧ (a = none → cap = 0) ∧ (l ≠ [] → cap ∈ y.1.weights Tryz.prog 35) := by
  rcases open_ints Tryz.underlying35 Tryz.underlying5 cByte hf with ⟨hcs, _⟩ | ⟨x, l, c, zs, hcs, _, hl, hm, hz, hy, hcell, hwz⟩
  · simp at hcs
    obtain ⟨rfl, rfl, rfl⟩ := hcs
    exact ⟨[], rfl, Bts.nil _ _, by simp, by simp, fun _ => rfl, fun h => absurd rfl h⟩
  · simp at hcs
    obtain ⟨rfl, rfl, rfl⟩ := hcs
    have hz' : zs.length = cap := by simpa using hz
    have hlen : ((zs.take len).map fun z => UInt8.ofNat z.toNat).length = len := by simp; omega
    refine ⟨(zs.take len).map fun z => UInt8.ofNat z.toNat, hlen.symm, ?_, by omega, hm, (fun h => by cases h), fun _ => ?_⟩
    rotate_left
    · subst hy
      simp only [DataW.weights, Tryz.underlying35]
      refine List.mem_cons.2 (.inl ?_)
      have e : Tryz.prog.bytesOf 5 = 1 := by kernel_rfl
      rw [e]
      simp [lits]
      omega
    intro hne
    have hlen0 : 0 < len := by
      rcases Nat.eq_zero_or_pos len with e | e
      · subst e
        simp at hne
      · exact e
    obtain ⟨b, off, spot⟩ := x
    have hc0 := hcell 0 (by omega)
    have hspot : spot = none := by simpa [Addr.add] using World.cell?_spot hc0
    subst hspot
    refine ⟨b, off, rfl, fun i hi => ?_⟩
    rw [hlen] at hi
    have hc := hcell i (by omega)
    rw [addr_add] at hc
    rw [hc]
    have hzi : i < zs.length := by omega
    obtain ⟨m, hm1, hm2⟩ := u8_nat (hwz zs[i] (List.getElem_mem hzi))
    have e2 : zs.getD i 0 = zs[i] := by simp [hzi]
    rw [e2, getElem!_pos _ i (by rw [hlen]; exact hi)]
    simp only [List.getElem_map, List.getElem_take, bval, hm1, Int.toNat_natCast, UInt8.toNat_ofNat']
    rw [Nat.mod_eq_of_lt hm2]
set_option maxRecDepth 100000 in
theorem open_bytes {W : World} {base : Nat} {v : Value} {d : DataW H} {p : List MemPlace} (hval : Value.okWide Tryz.prog W .any base 35 v)
    (h0 : DataW.Trod enc Tryz.prog W 0 (fun _ => true) true 35 v d p) : ∃ (a : Option Addr) (cap : Nat) (l : List UInt8), v = .slice a l.length cap ∧ Bts W a l ∧ l.length ≤ cap ∧ cap ≤ maxLen ∧ (a = none → cap = 0) := by
  obtain ⟨a, len, cap, rfl⟩ := okWide_slice Tryz.underlying35 hval
  obtain ⟨fuel, hf⟩ := h0
  obtain ⟨l, rfl, h1, h2, h3, h4, _⟩ := open_bytes_at hf
  exact ⟨a, cap, l, rfl, h1, h2, h3, h4⟩
theorem trod_struct3' {P : Program} {w : World} {base : Nat} {spare : Nat → Bool} {held : Bool} {t : TypeId} {f0 f1 f2 : Field} {fuel : Nat} {cs : List Value} {x : DataW H × List MemPlace} (ht : P.underlying t = some (.struct #[f0, f1, f2])) (h : DataW.trod enc P w base spare held fuel t cs = some x) :
    ∃ y0 y1 y2 n, DataW.trod enc P w base spare held n f0.type ((cs.drop f0.offset).take (P.cellsOf f0.type)) = some y0 ∧ DataW.trod enc P w base spare held n f1.type ((cs.drop f1.offset).take (P.cellsOf f1.type)) = some y1 ∧
      DataW.trod enc P w base spare held n f2.type ((cs.drop f2.offset).take (P.cellsOf f2.type)) = some y2 := by
  obtain ⟨xs, n, _, rfl, hl, hlen, hf⟩ := DataW.trod_struct ht h
  match xs, hlen with
  | [y0, y1, y2], _ => exact ⟨y0, y1, y2, n, by simpa using hf 0 f0 rfl, by simpa using hf 1 f1 rfl, by simpa using hf 2 f2 rfl⟩
theorem trod_struct5' {P : Program} {w : World} {base : Nat} {spare : Nat → Bool} {held : Bool} {t : TypeId} {f0 f1 f2 f3 f4 : Field} {fuel : Nat} {cs : List Value} {x : DataW H × List MemPlace} (ht : P.underlying t = some (.struct #[f0, f1, f2, f3, f4])) (h : DataW.trod enc P w base spare held fuel t cs = some x) :
    ∃ y0 y1 y2 y3 y4 n, DataW.trod enc P w base spare held n f0.type ((cs.drop f0.offset).take (P.cellsOf f0.type)) = some y0 ∧ DataW.trod enc P w base spare held n f1.type ((cs.drop f1.offset).take (P.cellsOf f1.type)) = some y1 ∧
      DataW.trod enc P w base spare held n f2.type ((cs.drop f2.offset).take (P.cellsOf f2.type)) = some y2 ∧ DataW.trod enc P w base spare held n f3.type ((cs.drop f3.offset).take (P.cellsOf f3.type)) = some y3 ∧
      DataW.trod enc P w base spare held n f4.type ((cs.drop f4.offset).take (P.cellsOf f4.type)) = some y4 := by
  obtain ⟨xs, n, _, rfl, hl, hlen, hf⟩ := DataW.trod_struct ht h
  match xs, hlen with
  | [y0, y1, y2, y3, y4], _ => exact ⟨y0, y1, y2, y3, y4, n, by simpa using hf 0 f0 rfl, by simpa using hf 1 f1 rfl, by simpa using hf 2 f2 rfl, by simpa using hf 3 f3 rfl, by simpa using hf 4 f4 rfl⟩
/-- What is known of an effect that is handed in. -/
structure Ek (w : World) (x : Ev) : Prop where
  ed : Ed w x
  att : Ok x.f x.m x.t
  top : x.c ≤ maxLen
  k0 : -9223372036854775808 ≤ x.k ∧ x.k ≤ 9223372036854775807
  n0 : -9223372036854775808 ≤ x.n ∧ x.n ≤ 9223372036854775807
theorem i64_wf {z : Int} (h : (Lit.int .i64 z).wf = true) : -9223372036854775808 ≤ z ∧ z ≤ 9223372036854775807 := by
  simp [Lit.wf, IntKind.min, IntKind.max, IntKind.signed, IntKind.bits] at h
  omega
set_option maxRecDepth 100000 in
theorem open_cells {W : World} {fuel : Nat} {cs : List Value} {y : DataW H × List MemPlace} (hl : cs.length = 7) (hf : DataW.trod enc Tryz.prog W 0 (fun _ => true) true fuel 43 cs = some y) : ∃ x : Ev, cs = ev7 x ∧ Ek W x := by
  obtain ⟨y0, y1, y2, y3, y4, n, t0, t1, t2, t3, t4⟩ := trod_struct5' Tryz.underlying43 hf
  match cs, hl with
  | [u0, u1, u2, u3, u4, u5, u6], _ =>
    simp only [cInt, cAttrs, cSl, cBool, List.drop_zero, List.drop_succ_cons, List.take_succ_cons, List.take_zero] at t0 t1 t2 t3 t4
    obtain ⟨k, e0, _, w0⟩ := DataW.trod_int Tryz.underlying3 t0
    obtain ⟨q0, q1, q2, m, r0, r1, r2⟩ := trod_struct3' Tryz.underlying41 t1
    simp only [cU32, cByte, List.drop_zero, List.drop_succ_cons, List.take_succ_cons, List.take_zero] at r0 r1 r2
    obtain ⟨z0, a0, _, v0⟩ := DataW.trod_int Tryz.underlying39 r0
    obtain ⟨z1, a1, _, v1⟩ := DataW.trod_int Tryz.underlying5 r1
    obtain ⟨z2, a2, _, v2⟩ := DataW.trod_int Tryz.underlying5 r2
    obtain ⟨f, rfl, hf0⟩ := u32_nat v0
    obtain ⟨mm, rfl, hm0⟩ := u8_nat v1
    obtain ⟨t, rfl, ht0⟩ := u8_nat v2
    obtain ⟨nn, e3, _, w3⟩ := DataW.trod_int Tryz.underlying3 t3
    obtain ⟨b, e4, _⟩ := DataW.trod_bool Tryz.underlying4 t4
    obtain ⟨pa, len, cap, e2⟩ : ∃ (pa : Option Addr) (len cap : Nat), u4 = .slice pa len cap := by
      rcases open_slice Tryz.underlying35 t2 with ⟨hcs, _⟩ | ⟨x, l, c, _, _, _, _, hcs, _⟩
      · simp at hcs
        exact ⟨none, 0, 0, hcs⟩
      · simp at hcs
        exact ⟨some x, l, c, hcs⟩
    subst e2
    obtain ⟨l, rfl, h1, h2, h3, h4, _⟩ := open_bytes_at t2
    simp only [List.cons.injEq, and_true] at e0 e3 e4 a0 a1 a2
    subst e0 e3 e4 a0 a1 a2
    exact ⟨⟨k, f, mm, t, pa, cap, l, nn, b⟩, rfl, ⟨h1, h2, h4⟩, ⟨hf0, hm0, ht0⟩, h3, i64_wf w0, i64_wf w3⟩
set_option maxRecDepth 100000 in
theorem open_effect {W : World} {base : Nat} {v : Value} {d : DataW H} {p : List MemPlace} (hval : Value.okWide Tryz.prog W .any base 43 v)
    (h0 : DataW.Trod enc Tryz.prog W 0 (fun _ => true) true 43 v d p) : ∃ x : Ev, v = .agg (ev7 x).toArray ∧ Ek W x := by
  obtain ⟨cs, rfl, hsz⟩ := okWide_struct Tryz.underlying43 hval
  obtain ⟨fuel, hf⟩ := h0
  rw [cEff] at hsz
  obtain ⟨x, hx, hk⟩ := open_cells (cs := cs.toList) (by simpa using hsz) (by simpa [Value.cells] using hf)
  exact ⟨x, by rw [← hx], hk⟩
end
end Go.Proofs.YthfiilhbgogoaaaGreatDoor
/-
  trace.Written.
-/
namespace Go.Proofs.YthfiilhbgogoaaaGreatDoor
open Go.RowKit Go.Lib
set_option linter.unusedVariables false

/-- What one effect wrote. -/
def wr1 (x : Ev) : List UInt8 := if x.k = 2 then x.l.take (min (max x.n 0) (x.l.length : Int)).toNat else []
def wrt (L : List Ev) : List UInt8 := L.flatMap wr1
def Wrt (l : List UInt8) (w : World) (e : Ending) (w' : World) : Prop := ∃ v, e = .returned v ∧ Own w' w.heap.size v l ∧ Stp [] w [] w'
theorem wrt_snoc (L : List Ev) (i : Nat) (x : Ev) (h : L[i]? = some x) : wrt (L.take (i + 1)) = wrt (L.take i) ++ wr1 x := by
  obtain ⟨hi, e⟩ := List.getElem?_eq_some_iff.1 h
  rw [List.take_succ_eq_append_getElem hi, e]
  simp [wrt]
theorem wrt_take_le (L : List Ev) (i : Nat) : (wrt (L.take i)).length ≤ (wrt L).length := by
  have h : wrt L = wrt (L.take i) ++ wrt (L.drop i) := by
    have := congrArg wrt (List.take_append_drop i L)
    simp only [wrt, List.flatMap_append] at this
    exact this.symm
  rw [h]
  simp
set_option maxHeartbeats 1000000 in
set_option maxRecDepth 100000 in
theorem written_run (a : Option Addr) (cap : Nat) (L : List Ev) (w : World) (hE : Er w a L) (hl : L.length ≤ 100000) (hb : (wrt L).length ≤ 900000) :
    Calls Tryz.prog 13 #[.slice a L.length cap] w (Wrt (wrt L) w) := by
  have HE : Aside (Er w a L) := hE
  clear hE
  go_enter Tryz.func13, Tryz.ntmps13
  go_wp2
  go_loopg [3, 8] L.length (fun gk v3 v8 wr => ∃ i : Nat, v8 = .int .i64 (i : Int) ∧ i ≤ L.length ∧ L.length - i ≤ gk ∧ Aside (Own wr w.heap.size v3 (wrt (L.take i)) ∧ Stp [] w [] wr))
  case atStart => exact ⟨0, rfl, by omega, by omega, Own.nil _ _, Stp.refl _ _⟩
  case round =>
    obtain ⟨i, rfl, hi, hg, HS⟩ := hrel
    obtain ⟨a3, c3, hv3, _, _, _, _⟩ := HS.out.1.bts
    subst hv3
    by_cases hlt : i < L.length
    · have hltz : (i : Int) < (L.length : Int) := by omega
      obtain ⟨x, hx⟩ : ∃ x, L[i]? = some x := ⟨L[i], List.getElem?_eq_getElem hlt⟩
      obtain ⟨b, off, ha, hc⟩ := HE.out.2 (fun e => by simp [e] at hlt)
      subst ha
      obtain ⟨e0, e1, e2, e3, e4, e5, e6⟩ := (hc i x hx).stays HS.out.2
      have hsn := wrt_snoc L i x hx
      have hle1 := wrt_take_le L (i + 1)
      rw [hsn, List.length_append] at hle1
      have HD : Aside (Ed wr x) := (HE.out.1 x (List.mem_of_getElem? hx)).stays HS.out.2
      clear hc
      by_cases hk : x.k = 2
      · have hkb : (x.k == 2) = true := by rw [hk]; rfl
        obtain ⟨m, hm⟩ := Int.eq_ofNat_of_zero_le (show 0 ≤ min (max x.n 0) (x.l.length : Int) by omega)
        have hml : m ≤ x.l.length := by omega
        have hw1 : wr1 x = x.l.take m := by
          unfold wr1
          rw [if_pos hk, hm]
          rfl
        rw [hw1] at hsn hle1
        have hcut : ∀ W, (Instr.slice 35 (.slice x.a x.l.length x.c) none (some (.int .i64 (m : Int))) none).run Tryz.prog W = .ok (.slice x.a m x.c) W := fun W => cut_h _ _ _ m (by have := HD.out.2.1; omega) W
        have HP : Aside (wrt (L.take (i + 1)) = wrt (L.take i) ++ x.l.take m ∧ (wrt (L.take i)).length + (x.l.take m).length ≤ 900000) := ⟨hsn, by omega⟩
        have HTL : Aside (m = (x.l.take m).length) := by
          show m = (x.l.take m).length
          rw [List.length_take]
          omega
        clear hsn hle1 hw1 hx hk
        have H2 : Aside (∀ o : Obj, Own (wr.alloc o) w.heap.size (.slice a3 (wrt (L.take i)).length c3) (wrt (L.take i)) ∧ Stp [] w [] (wr.alloc o) ∧ Bts (wr.alloc o) x.a (x.l.take m)) := fun o => ⟨HS.out.1.other (Stp.alloc [] _ _) (by simp), HS.out.2.trans (Stp.alloc [] _ _), by
          have := (HD.out.1.stays (Stp.alloc [] wr o)).cut (i := 0) (j := m) (N := x.c) (by omega) hml HD.out.2.1
          have e : cutp x.a 0 x.c = x.a := by
            unfold cutp
            split
            · rfl
            · rcases x.a with _ | ⟨q, r, sp⟩ <;> simp [Addr.add]
          rw [e] at this
          simpa using this⟩
        go_wp2_with (at_builtin
                     refine wpList_app rfl (.tmp 15) (.tmp 25) rfl w.heap.size (.slice a3 (wrt (L.take i)).length c3) (wrt (L.take i)) rfl (H2.out _).1 x.a x.c m (x.l.take m) HTL.out rfl (H2.out _).2.2 HD.out.2.2 (by have := HP.out.2; omega) (by have := (H2.out (.cells #[] 0)).2.1.size; simp at this ⊢; omega) ?_
                     intro v' w' ho' hg'
                     have HQ : Aside (Own w' w.heap.size v' (wrt (L.take i) ++ x.l.take m) ∧ Stp [] w [] w') := ⟨ho', (H2.out _).2.1.app hg' (fun k hk => (HS.out.1.lt k hk).1)⟩
                     clear ho' hg')
        go_roundg (L.length - (i + 1))
        case measure => omega
        case rel => exact ⟨i + 1, by go_num, by omega, by omega, by rw [HP.out.1]; exact HQ.out.1, HQ.out.2⟩
      · have hkb : (x.k == 2) = false := beq_eq_false_iff_ne.2 hk
        have hw1 : wr1 x = [] := by
          unfold wr1
          rw [if_neg hk]
        rw [hw1, List.append_nil] at hsn
        have HP : Aside (wrt (L.take (i + 1)) = wrt (L.take i)) := hsn
        clear hsn hle1 hw1 hx
        go_wp2
        go_roundg (L.length - (i + 1))
        case measure => omega
        case rel => exact ⟨i + 1, by go_num, by omega, by omega, by rw [HP.out]; exact HS.out.1.other (Stp.alloc [] _ _) (by simp), HS.out.2.trans (Stp.alloc [] _ _)⟩
    · have hltz : ¬ (i : Int) < (L.length : Int) := by omega
      obtain rfl : i = L.length := by omega
      have HP : Aside (wrt (L.take L.length) = wrt L) := by
        show wrt (L.take L.length) = wrt L
        rw [List.take_length]
      go_wp2
      go_ret
      exact ⟨_, rfl, by rw [← HP.out]; exact HS.out.1, HS.out.2⟩
end Go.Proofs.YthfiilhbgogoaaaGreatDoor
/-
  The library's contracts of a builder: WriteString (laid by what strings.Join's laying holds) and String, over bytes.
-/
namespace Go.Proofs
open Go.Shelf
theorem Tryz.lays166w : Go.Proofs.Lays.n166 Tryz.prog Tryz.lays156_ren := { Tryz.lays156 with }
namespace YthfiilhbgogoaaaGreatDoor
open Go.RowKit Go.Lib
/-- A builder that is new since block number 'B', with bytes. -/
def Bu (B b : Nat) (l : List UInt8) (w : World) : Prop := Lib.IsBuilderF 56 5 B b (Lib.byteCells l) w
theorem write_run (B b : Nat) (l m : List UInt8) (w : World) (h : Bu B b l w) (hl : l.length + m.length ≤ 100000000) (hB : B ≤ w.heap.size) :
    Calls Tryz.prog 18 #[.pointer (some ⟨b, 0, none⟩), .string (st m)] w fun e w' => e = .returned (.tuple #[.int .i64 (m.length : Int), .nilIface]) ∧ Bu B b (l ++ m) w' ∧ Below B w w' := by
  refine (Any.Builder_WriteString_k Tryz.lays166w Tryz.Builder_Extra_156 B b (Lib.byteCells l) (st m) w h (by rw [st_size]; simp [Lib.byteCells]; omega) hB).mono ?_
  rintro e w' ⟨rfl, h1, h2, _⟩
  refine ⟨by rw [st_size], .inr ?_, h2⟩
  have e1 : Lib.byteCells l ++ Lib.strCells (st m) = Lib.byteCells (l ++ m) := by
    simp [Lib.byteCells, Lib.strCells, st_data]
  rw [e1] at h1
  exact h1
theorem string_run (B b : Nat) (l : List UInt8) (w : World) (h : Bu B b l w) (hB : B ≤ w.heap.size) : Calls Tryz.prog 19 #[.pointer (some ⟨b, 0, none⟩)] w fun e w' => e = .returned (.string (st l)) ∧ Below B w w' := by
  refine (Tryz.Builder_String_any_k B b l w h hB).mono ?_
  rintro e w' ⟨rfl, _, h2, _⟩
  exact ⟨rfl, h2⟩
end YthfiilhbgogoaaaGreatDoor
end Go.Proofs
/-
  trace.Format.
-/
namespace Go.Proofs.YthfiilhbgogoaaaGreatDoor
open Go.RowKit Go.Lib
set_option linter.unusedVariables false

theorem batF_stays {B b : Nat} {p : Value} {bs : List Value} {w w' : World} {F : List Nat} {T e : TypeId} (h : Lib.BuilderAtF T e B b p bs w) (hs : Stp [] w F w') : Lib.BuilderAtF T e B b p bs w' := by
  obtain ⟨hB, v, hb, hown, hne⟩ := h
  refine ⟨hB, v, (hs.block b (Array.getElem?_eq_some_iff.1 hb).1 (by simp)).trans hb, ⟨hown.1, ?_⟩, hne⟩
  rcases hown.2 with hn | ⟨g, cap, cur, fz, hv, hbg, hg, rest⟩
  · exact .inl hn
  · exact .inr ⟨g, cap, cur, fz, hv, hbg, (hs.block g (Array.getElem?_eq_some_iff.1 hg).1 (by simp)).trans hg, rest⟩
theorem Bu.stays {B b : Nat} {l : List UInt8} {w w' : World} {F : List Nat} (h : Bu B b l w) (hs : Stp [] w F w') : Bu B b l w' :=
  h.elim (fun x => .inl (batF_stays x hs)) (fun x => .inr (batF_stays x hs))
theorem Bu.new (w : World) : Bu w.heap.size w.heap.size [] (w.alloc (.cells #[.pointer none, .slice none 0 0] 56)) :=
  .inl ⟨Nat.le_refl _, .slice none 0 0, heap_alloc_new _ _, ⟨rfl, .inl ⟨rfl, rfl⟩⟩, fun h => by cases h⟩
theorem Stp.belowB {w W W' : World} (h : Stp [] w [] W) (k : Below w.heap.size W W') : Stp [] w [] W' :=
  ⟨k.os.trans h.os, k.tape.trans h.tape, k.output.trans h.output, Nat.le_trans h.size k.size, fun i hi hF => (k.block i hi).trans (h.block i hi hF), fun _ h => by cases h⟩
def lnT (L : List Ev) : List UInt8 := L.flatMap fun x => (lnE x).1 ++ [10]
/-- The text of effects, and the error. -/
def fm (L : List Ev) : List UInt8 × Int := match L.find? (fun x => decide ((lnE x).2 ≠ 0)) with
  | some x => ([], (lnE x).2)
  | none => (lnT L, 0)
theorem lnT_snoc (L : List Ev) (i : Nat) (x : Ev) (h : L[i]? = some x) : lnT (L.take (i + 1)) = lnT (L.take i) ++ (lnE x).1 ++ [10] := by
  obtain ⟨hi, e⟩ := List.getElem?_eq_some_iff.1 h
  have q : ∀ A B : List Ev, lnT (A ++ B) = lnT A ++ lnT B := fun A B => by simp [lnT]
  rw [List.take_succ_eq_append_getElem hi, e, q]
  simp [lnT]
theorem fm_err (L : List Ev) (i : Nat) (x : Ev) (h : L[i]? = some x) (hp : ∀ y ∈ L.take i, (lnE y).2 = 0) (he : (lnE x).2 ≠ 0) : fm L = ([], (lnE x).2) := by
  obtain ⟨hi, e⟩ := List.getElem?_eq_some_iff.1 h
  have hL : L = L.take i ++ (x :: L.drop (i + 1)) := by
    rw [← e, ← List.drop_eq_getElem_cons hi, List.take_append_drop]
  have hf : L.find? (fun x => decide ((lnE x).2 ≠ 0)) = some x := by
    rw [hL, List.find?_append, List.find?_eq_none.2 (fun y hy => by simp [hp y hy])]
    simp [he]
  unfold fm
  rw [hf]
theorem fm_ok (L : List Ev) (hp : ∀ y ∈ L, (lnE y).2 = 0) : fm L = (lnT L, 0) := by
  unfold fm
  rw [List.find?_eq_none.2 (fun y hy => by simp [hp y hy])]
set_option maxHeartbeats 1000000 in
set_option maxRecDepth 100000 in
theorem format_run (a : Option Addr) (cap : Nat) (L : List Ev) (w : World) (hT : Tabs w) (hE : Er w a L) (hl : L.length ≤ 10000) (hx : ∀ x ∈ L, Ok x.f x.m x.t ∧ x.n ≤ 9223372036854775807 ∧ x.l.length ≤ 100000 ∧ (lnE x).1.length ≤ 9000) :
    Calls Tryz.prog 7 #[.slice a L.length cap] w (Tells (.tuple #[.string (st (fm L).1), .int .i64 (fm L).2]) w) := by
  have KA := Lib.hid all_run
  have HT : Aside (Tabs w ∧ Er w a L ∧ ∀ x ∈ L, Ok x.f x.m x.t ∧ x.n ≤ 9223372036854775807 ∧ x.l.length ≤ 100000 ∧ (lnE x).1.length ≤ 9000) := ⟨hT, hE, hx⟩
  clear hT hE hx
  go_enter Tryz.func7, Tryz.ntmps7
  go_wp2_with fail
  refine (KA.out _).mono ?_
  rintro _ w1 ⟨X, rfl, h1, h2⟩
  have hsc := store_all w1 X h1.1
  have hcl : (closures X).length = 14 := by rw [closures_len, h1.1]
  have H1 : Aside (AllAt (w1.alloc (.cells (closures X).toArray 52)) X ∧ (w1.alloc (.cells (closures X).toArray 52)).heap[w1.heap.size]? = some (.cells (closures X).toArray 52 (0, 0)) ∧ Stp [] w [] (w1.alloc (.cells (closures X).toArray 52))) :=
    ⟨h1.stays (Stp.alloc [] _ _), heap_alloc_new _ _, h2.trans (Stp.alloc [] _ _)⟩
  clear h1 h2 KA
  generalize w1.alloc (.cells (closures X).toArray 52) = w2 at *
  go_wp2
  generalize w1.heap.size = ga at *
  have KL : Hid (∀ (x : Ev), x ∈ L → ∀ W, Stp [] w2 [] W → Calls Tryz.prog 17 #[.pointer (some ⟨ga, 0, none⟩), .agg #[.int .i64 x.k, .int .u32 (x.f : Int), .int .u8 (x.m : Int), .int .u8 (x.t : Int), .slice x.a x.l.length x.c, .int .i64 x.n, .bool x.ok]] W (Tells (.tuple #[.string (st (lnE x).1), .int .i64 (lnE x).2]) W)) := Lib.hid fun x hx W hs => by
    obtain ⟨p1, p2, p3, _⟩ := HT.out.2.2 x hx
    exact line_run X ga x p1 p2 p3 W ((HT.out.1.stays H1.out.2.2).stays hs) (H1.out.1.stays hs) ((hs.block ga (Array.getElem?_eq_some_iff.1 H1.out.2.1).1 (by simp)).trans H1.out.2.1) (((HT.out.2.1.1 x hx).stays H1.out.2.2).stays hs)
  have KW : Hid (∀ (l m : List UInt8) (W : World), Bu w2.heap.size w2.heap.size l W → l.length + m.length ≤ 100000000 → w2.heap.size ≤ W.heap.size → Calls Tryz.prog 18 #[.pointer (some ⟨w2.heap.size, 0, none⟩), .string (st m)] W fun e w' => e = .returned (.tuple #[.int .i64 (m.length : Int), .nilIface]) ∧ Bu w2.heap.size w2.heap.size (l ++ m) w' ∧ Below w2.heap.size W w') := Lib.hid fun l m W h1 h2 h3 => write_run _ _ l m W h1 h2 h3
  clear hsc hcl
  go_loopg [13] L.length (fun gk v13 wr => ∃ i : Nat, v13 = .int .i64 (i : Int) ∧ i ≤ L.length ∧ L.length - i ≤ gk ∧ Aside (Bu w2.heap.size w2.heap.size (lnT (L.take i)) wr ∧ Stp [] w2 [] wr ∧ (∀ y ∈ L.take i, (lnE y).2 = 0) ∧ (lnT (L.take i)).length ≤ i * 9001))
  case atStart => exact ⟨0, rfl, by omega, by omega, Bu.new w2, Stp.alloc _ _ _, (fun y hy => by simp at hy), by simp [lnT]⟩
  case round =>
    obtain ⟨i, rfl, hi, hg, HS⟩ := hrel
    by_cases hlt : i < L.length
    · have hltz : (i : Int) < (L.length : Int) := by omega
      obtain ⟨x, hx⟩ : ∃ x, L[i]? = some x := ⟨L[i], List.getElem?_eq_getElem hlt⟩
      have hm := List.mem_of_getElem? hx
      obtain ⟨b, off, ha, hc⟩ := HT.out.2.1.2 (fun e => by simp [e] at hlt)
      subst ha
      obtain ⟨e0, e1, e2, e3, e4, e5, e6⟩ := ((hc i x hx).stays H1.out.2.2).stays HS.out.2.1
      have K1 : Hid (∀ W, Stp [] wr [] W → Calls Tryz.prog 17 #[.pointer (some ⟨ga, 0, none⟩), .agg #[.int .i64 x.k, .int .u32 (x.f : Int), .int .u8 (x.m : Int), .int .u8 (x.t : Int), .slice x.a x.l.length x.c, .int .i64 x.n, .bool x.ok]] W (Tells (.tuple #[.string (st (lnE x).1), .int .i64 (lnE x).2]) W)) := Lib.hid fun W hs => KL.out x hm W (HS.out.2.1.trans hs)
      by_cases he : (lnE x).2 = 0
      · have HN : Aside (lnT (L.take (i + 1)) = lnT (L.take i) ++ (lnE x).1 ++ [10] ∧ (∀ y ∈ L.take (i + 1), (lnE y).2 = 0) ∧ (lnE x).1.length ≤ 9000 ∧ i * 9001 ≤ 90010000) := by
          refine ⟨lnT_snoc L i x hx, fun y hy => ?_, (HT.out.2.2 x hm).2.2.2, (by have : i * 9001 ≤ 10000 * 9001 := Nat.mul_le_mul_right 9001 (by omega : i ≤ 10000); omega)⟩
          obtain ⟨h1, h2⟩ := List.getElem?_eq_some_iff.1 hx
          rw [List.take_succ_eq_append_getElem h1, h2] at hy
          rcases List.mem_append.1 hy with h | h
          · exact HS.out.2.2.1 y h
          · simp at h
            subst h
            exact he
        rw [he] at K1
        clear hc hx he hm
        generalize (lnE x).1 = z at *
        go_wp2_with fail
        refine (K1.out _ (Stp.alloc [] _ _)).mono ?_
        rintro _ w5 ⟨rfl, h5⟩
        have H5 : Aside (Bu w2.heap.size w2.heap.size (lnT (L.take i)) w5 ∧ Stp [] w2 [] w5) := ⟨(HS.out.1.stays (Stp.alloc [] _ _)).stays h5, (HS.out.2.1.trans (Stp.alloc [] _ _)).trans h5⟩
        clear h5 e0 e1 e2 e3 e4 e5 e6
        go_wp2_with fail
        refine (KW.out _ z _ H5.out.1 (by have := HS.out.2.2.2; have := HN.out.2.2; omega) H5.out.2.size).mono ?_
        rintro _ w6 ⟨rfl, hb6, h6⟩
        have H6 : Aside (Bu w2.heap.size w2.heap.size (lnT (L.take i) ++ z) w6 ∧ Stp [] w2 [] w6) := ⟨hb6, Stp.belowB H5.out.2 h6⟩
        clear hb6 h6
        go_wp2_with fail
        refine (KW.out _ [10] _ H6.out.1 (by have := HS.out.2.2.2; have := HN.out.2.2; simp; omega) H6.out.2.size).mono ?_
        rintro _ w7 ⟨rfl, hb7, h7⟩
        have H7 : Aside (Bu w2.heap.size w2.heap.size (lnT (L.take (i + 1))) w7 ∧ Stp [] w2 [] w7 ∧ (lnT (L.take (i + 1))).length ≤ (i + 1) * 9001) := ⟨by rw [HN.out.1]; exact hb7, Stp.belowB H6.out.2 h7, by
          have := HS.out.2.2.2
          have := HN.out.2.2.1
          rw [HN.out.1, List.length_append, List.length_append, Nat.add_mul]
          simp
          omega⟩
        clear hb7 h7
        go_wp2
        go_roundg (L.length - (i + 1))
        case measure => omega
        case rel => exact ⟨i + 1, by go_num, by omega, by omega, H7.out.1, H7.out.2.1, HN.out.2.1, H7.out.2.2⟩
      · have HN : Aside (fm L = ([], (lnE x).2)) := fm_err L i x hx HS.out.2.2.1 he
        have heb : ((lnE x).2 == 0) = false := beq_eq_false_iff_ne.2 he
        clear hc hx hm
        generalize (lnE x).1 = z at *
        generalize (lnE x).2 = ez at *
        go_wp2_with fail
        refine (K1.out _ (Stp.alloc [] _ _)).mono ?_
        rintro _ w5 ⟨rfl, h5⟩
        have H5 : Aside (Stp [] w [] w5) := (H1.out.2.2.trans (HS.out.2.1.trans (Stp.alloc [] _ _))).trans h5
        clear h5 e0 e1 e2 e3 e4 e5 e6
        go_wp2
        go_ret2
        exact ⟨by rw [HN.out]; rfl, H5.out⟩
    · have hltz : ¬ (i : Int) < (L.length : Int) := by omega
      obtain rfl : i = L.length := by omega
      have HN : Aside (fm L = (lnT L, 0) ∧ Bu w2.heap.size w2.heap.size (lnT L) wr ∧ Stp [] w2 [] wr) := by
        have h1 := HS.out
        rw [List.take_length] at h1
        exact ⟨fm_ok L h1.2.2.1, h1.1, h1.2.1⟩
      have KS : Hid (Calls Tryz.prog 19 #[.pointer (some ⟨w2.heap.size, 0, none⟩)] wr fun e w' => e = .returned (.string (st (lnT L))) ∧ Below w2.heap.size wr w') := Lib.hid (string_run _ _ _ wr HN.out.2.1 HN.out.2.2.size)
      clear HS KL KW
      go_wp2_with fail
      refine KS.out.mono ?_
      rintro _ w5 ⟨rfl, h5⟩
      go_wp2
      go_ret2
      exact ⟨by rw [HN.out.1]; rfl, H1.out.2.2.trans (Stp.belowB HN.out.2.2 h5)⟩
end Go.Proofs.YthfiilhbgogoaaaGreatDoor
/-
  Two rows of effects, one behind the other: what they write, how long their lines are, their texts; appending a slice of effects.
-/
namespace Go.Proofs.YthfiilhbgogoaaaGreatDoor
open Go.RowKit Go.Lib
set_option linter.unusedVariables false

/-- How great effects are. -/
def bulk (L : List Ev) : Nat := (L.map fun x => 1 + x.l.length).sum
theorem bulk_cons (x : Ev) (L : List Ev) : bulk (x :: L) = 1 + x.l.length + bulk L := by simp [bulk]
theorem bulk_mem : ∀ {L : List Ev} {x : Ev}, x ∈ L → 1 + x.l.length ≤ bulk L
  | [], x, h => by cases h
  | y :: L, x, h => by
    rw [bulk_cons]
    rcases List.mem_cons.1 h with rfl | h
    · omega
    · have := bulk_mem h
      omega
theorem bulk_len : ∀ L : List Ev, L.length ≤ bulk L
  | [] => by simp [bulk]
  | x :: L => by
    have := bulk_len L
    rw [bulk_cons, List.length_cons]
    omega
theorem bulk_take (L : List Ev) (i : Nat) (x : Ev) (h : L[i]? = some x) : bulk (L.take (i + 1)) = bulk (L.take i) + (1 + x.l.length) := by
  obtain ⟨hi, e⟩ := List.getElem?_eq_some_iff.1 h
  rw [List.take_succ_eq_append_getElem hi, e]
  simp [bulk]
theorem bulk_app (L M : List Ev) : bulk (L ++ M) = bulk L + bulk M := by simp [bulk]
theorem bulk_take_le (L : List Ev) (i : Nat) : bulk (L.take i) ≤ bulk L := by
  have := bulk_app (L.take i) (L.drop i)
  rw [List.take_append_drop] at this
  omega
theorem wr1_len (x : Ev) : (wr1 x).length ≤ x.l.length := by
  unfold wr1
  split
  · rw [List.length_take]
    omega
  · simp
theorem wrt_len : ∀ L : List Ev, (wrt L).length ≤ bulk L
  | [] => by simp [wrt, bulk]
  | x :: L => by
    have h1 := wrt_len L
    have h2 := wr1_len x
    have e : wrt (x :: L) = wr1 x ++ wrt L := by simp [wrt]
    rw [e, bulk_cons, List.length_append]
    omega
theorem wrt_both (L M : List Ev) : wrt (L ++ M) = wrt L ++ wrt M := by simp [wrt]

/-! ### How long a line is -/
theorem wt_short (k : FK) (x : Ev) (hP : Pk x) : (wt k x).length ≤ 200 + (match k with | .data => 2 * x.l.length | _ => 0) := by
  cases k
  · show (if x.ok then [111, 107] else [102, 97, 105, 108] : List UInt8).length ≤ _
    split <;> simp
  · have := text_len hP.att
    show (text x.f x.m x.t).length ≤ _
    omega
  · show (hext x.l).length ≤ 200 + 2 * x.l.length
    unfold hext
    split
    · show 1 ≤ 200 + 2 * x.l.length
      omega
    · have h1 := hexs_len x.l
      unfold hexs at h1
      omega
  · have := dig_len (b := 10) (by omega) 18 x.n.toNat (by have := hP.n1; omega)
    show (dig 10 x.n.toNat).length ≤ _
    omega
theorem wks_len : ∀ (ks : List FK) (x : Ev), Pk x → (wks ks x).length ≤ ks.length * 202 + 2 * x.l.length
  | [], x, _ => by simp [wks]
  | k :: ks, x, hP => by
    have h1 := wks_len ks (off k x) (hP.off k)
    have h2 := wt_short k x hP
    have e : (wks (k :: ks) x).length = 1 + (wt k x).length + (wks ks (off k x)).length := by simp [wks]; omega
    rw [e, List.length_cons]
    cases k
    · have : (off .ok x).l = x.l := rfl
      rw [this] at h1
      simp only at h2
      omega
    · have : (off .attrs x).l = x.l := rfl
      rw [this] at h1
      simp only at h2
      omega
    · have : (off .data x).l = [] := rfl
      rw [this] at h1
      simp only [List.length_nil] at h1 h2
      omega
    · have : (off .num x).l = x.l := rfl
      rw [this] at h1
      simp only at h2
      omega
theorem lnE_len (x : Ev) (h1 : Ok x.f x.m x.t) (h2 : x.n ≤ 9223372036854775807) (h3 : x.l.length ≤ 1600) : (lnE x).1.length ≤ 9000 := by
  unfold lnE
  split
  · simp
  · split
    · simp
    · rename_i nk hnk
      have hm := List.mem_of_getElem? hnk
      split
      · simp
      · rename_i hn
        have hw := wks_len nk.2 x ⟨h1, by omega, h2, by omega⟩
        have hk := FL_ks nk hm
        have hnm := FL_nm nk hm
        show (nk.1 ++ wks nk.2 x).length ≤ 9000
        rw [List.length_append]
        have : nk.2.length * 202 ≤ 3 * 202 := Nat.mul_le_mul_right 202 hk
        omega

/-! ### Texts of two rows -/
theorem fm_cases (L : List Ev) : ((∀ y ∈ L, (lnE y).2 = 0) ∧ fm L = (lnT L, 0)) ∨ ((∃ y ∈ L, (lnE y).2 ≠ 0) ∧ (fm L).1 = [] ∧ (fm L).2 ≠ 0) := by
  by_cases h : ∀ y ∈ L, (lnE y).2 = 0
  · exact .inl ⟨h, fm_ok L h⟩
  · refine .inr ?_
    simp only [Classical.not_forall] at h
    obtain ⟨y, hy, hne⟩ := h
    refine ⟨⟨y, hy, hne⟩, ?_⟩
    unfold fm
    cases hf : L.find? (fun x => decide ((lnE x).2 ≠ 0)) with
    | none =>
      have := List.find?_eq_none.1 hf y hy
      simp [hne] at this
    | some z =>
      have := List.find?_some hf
      simp at this
      exact ⟨rfl, this⟩
theorem fm_both {A B : List Ev} (ha : (fm A).2 = 0) (hb : (fm B).2 = 0) : fm (A ++ B) = ((fm A).1 ++ (fm B).1, 0) := by
  rcases fm_cases A with ⟨h1, e1⟩ | ⟨_, _, h1⟩
  · rcases fm_cases B with ⟨h2, e2⟩ | ⟨_, _, h2⟩
    · rw [e1, e2, fm_ok (A ++ B) (fun y hy => by
        rcases List.mem_append.1 hy with h | h
        · exact h1 y h
        · exact h2 y h)]
      simp [lnT]
    · exact absurd hb h2
  · exact absurd ha h1
theorem fm_not {A B : List Ev} (h : (fm A).2 ≠ 0 ∨ (fm B).2 ≠ 0) : (fm (A ++ B)).1 = [] ∧ (fm (A ++ B)).2 ≠ 0 := by
  rcases fm_cases (A ++ B) with ⟨h1, _⟩ | ⟨_, h1⟩
  · exfalso
    rcases h with h | h
    · rw [fm_ok A (fun y hy => h1 y (List.mem_append.2 (.inl hy)))] at h
      exact h rfl
    · rw [fm_ok B (fun y hy => h1 y (List.mem_append.2 (.inr hy)))] at h
      exact h rfl
  · exact h1
theorem lnT_len : ∀ L : List Ev, (∀ x ∈ L, (lnE x).1.length ≤ 9000) → (lnT L).length ≤ L.length * 9001
  | [], _ => by simp [lnT]
  | x :: L, h => by
    have h1 := lnT_len L (fun y hy => h y (by simp [hy]))
    have h2 := h x (by simp)
    have e : lnT (x :: L) = (lnE x).1 ++ [10] ++ lnT L := by simp [lnT]
    rw [e, List.length_cons, Nat.add_mul]
    simp
    omega
theorem fm_len (L : List Ev) (h : ∀ x ∈ L, (lnE x).1.length ≤ 9000) : (fm L).1.length ≤ L.length * 9001 := by
  rcases fm_cases L with ⟨_, e⟩ | ⟨_, e, _⟩
  · rw [e]
    exact lnT_len L h
  · rw [e]
    simp

/-! ### Appending -/
theorem Er.cells {w : World} {ad : Addr} {L : List Ev} (h : Er w (some ad) L) : ∀ j u, (evs L)[j]? = some u → w.cell? (ad.add j) = some u := by
  intro j u hu
  have hj : j < L.length * 7 := by
    have := (List.getElem?_eq_some_iff.1 hu).1
    rw [evs_length] at this
    exact this
  have hl : L ≠ [] := by
    intro e
    subst e
    simp at hj
  obtain ⟨b, off, e, hc⟩ := h.2 hl
  cases e
  have hi : j / 7 < L.length := by omega
  have hx := List.getElem?_eq_getElem hi
  have hr : j % 7 < 7 := Nat.mod_lt _ (by omega)
  have e7 := evs_get L (j / 7) _ hx (j % 7) hr
  rw [show j / 7 * 7 + j % 7 = j by omega, hu] at e7
  obtain ⟨c0, c1, c2, c3, c4, c5, c6⟩ := hc (j / 7) _ hx
  rw [addr_add, show off + j = off + j / 7 * 7 + j % 7 by omega]
  have hcase : j % 7 = 0 ∨ j % 7 = 1 ∨ j % 7 = 2 ∨ j % 7 = 3 ∨ j % 7 = 4 ∨ j % 7 = 5 ∨ j % 7 = 6 := by omega
  rcases hcase with e | e | e | e | e | e | e <;> rw [e] at e7 ⊢ <;> simp only [ev7, List.getElem?_cons_zero, List.getElem?_cons_succ, Option.some.injEq] at e7 <;> subst e7 <;> assumption
theorem run_appEs {w : World} {base : Nat} {v : Value} {xs : List Ev} (ty : TypeId) (hown : EOwn w base v xs) {A : Option Addr} {c : Nat} {l : List Ev} (hl : Er w A l) (hA : A = none → c = 0) (h63 : xs.length + l.length ≤ 1000000) (hbase : base ≤ w.heap.size) :
    ∃ v' w', (Builtin.append_ #[22, 22] ty #[v, .slice A l.length c]).run Tryz.prog w = .ok v' w' ∧ EOwn w' base v' (xs ++ l) ∧ w.grownBy w' v.ownBlock := by
  rcases A with _ | ad
  · obtain ⟨i0, hi0, hz0, hz1, hz2⟩ := info_parts eff_parts
    obtain rfl := hA rfl
    have : l = [] := by
      rcases Classical.em (l = []) with e | e
      · exact e
      · obtain ⟨b, off, h, _⟩ := hl.2 e
        cases h
    subst this
    refine ⟨v, w, run_append_owned_none (P := Tryz.prog) (w := w) base _ ty _ i0 7 Tryz.underlying22 hi0 v _ _ hown, ?_, World.grownBy.refl w _⟩
    simpa [EOwn] using hown
  · exact run_appE ty hown hl.cells h63 hbase
theorem wpList_appEs {w : World} {ops : Array Oper} {rest : List Oper} {o : Oper} {a : Act} {Q : Exit → Act → World → Prop} (hgd : o.guard = none) (s x : Operand)
    (ho : o.op = .call { callee := .builtin .append, args := #[s, x], argTypes := #[22, 22] }) (base : Nat) (v : Value) (xs : List Ev) (hs : a.eval s = v) (hown : EOwn w base v xs)
    (A : Option Addr) (c : Nat) (l : List Ev) (hx : a.eval x = .slice A l.length c) (hl : Er w A l) (hA : A = none → c = 0) (h63 : xs.length + l.length ≤ 1000000) (hbase : base ≤ w.heap.size)
    (h : ∀ v' w', EOwn w' base v' (xs ++ l) → w.grownBy w' v.ownBlock → wpList Tryz.prog ops Q rest (a.put o.dst v') w') : wpList Tryz.prog ops Q (o :: rest) a w := by
  refine wpList_plain hgd fun K hK => ?_
  obtain ⟨v', w', hrun, h2, h3⟩ := run_appEs (c := c) o.type hown hl hA h63 hbase
  unfold Oper.wp execOp
  simp only [ho, resolve, invoke, builtin, Sem.run_bind, Sem.run_pure, Result.andThen_ok, List.map_toArray, List.map_cons, List.map_nil, hs, hx, hrun]
  exact hK _ _ (h v' w' h2 h3)
theorem EOwn.new (w : World) : EOwn (w.alloc (.cells #[] 43)) w.heap.size (.slice (some ⟨w.heap.size, 0, none⟩) 0 0) [] :=
  ⟨rfl, .inr ⟨w.heap.size, 0, #[], rfl, Nat.le_refl _, heap_alloc_new w _, by simp, by simp, by simp, rfl⟩⟩

set_option maxHeartbeats 1000000 in
set_option maxRecDepth 100000 in
theorem tgreat_run (a : Option Addr) (cap : Nat) (L : List Ev) (w : World) (hE : Er w a L) (hb : bulk L ≤ 2000000) : Calls Tryz.prog 6 #[.slice a L.length cap] w (Tells (.bool (decide (1500 < bulk L))) w) := by
  have hlen := bulk_len L
  have hlb : L.length ≤ 2000000 := by omega
  have HE : Aside (Er w a L ∧ bulk L ≤ 2000000) := ⟨hE, hb⟩
  clear hE
  go_enter Tryz.func6, Tryz.ntmps6
  go_wp2
  go_loopg [3, 8] L.length (fun gk v3 vi wr => ∃ i : Nat, v3 = .int .i64 (bulk (L.take i) : Int) ∧ vi = .int .i64 (i : Int) ∧ i ≤ L.length ∧ L.length - i ≤ gk ∧ Aside (Stp [] w [] wr))
  case atStart => exact ⟨0, by simp [bulk], rfl, by omega, by omega, Stp.refl _ _⟩
  case round =>
    obtain ⟨i, rfl, rfl, hi, hg, HS⟩ := hrel
    by_cases hlt : i < L.length
    · have hltz : (i : Int) < (L.length : Int) := by omega
      obtain ⟨x, hx⟩ : ∃ x, L[i]? = some x := ⟨L[i], List.getElem?_eq_getElem hlt⟩
      obtain ⟨b, off, ha, hc⟩ := HE.out.1.2 (fun e => by simp [e] at hlt)
      subst ha
      obtain ⟨e0, e1, e2, e3, e4, e5, e6⟩ := (hc i x hx).stays HS.out
      have ht := bulk_take L i x hx
      have hle := bulk_take_le L (i + 1)
      have hub : bulk (L.take i) + (1 + x.l.length) ≤ 2000000 := by omega
      have HN : Aside (bulk (L.take (i + 1)) = bulk (L.take i) + (1 + x.l.length)) := ht
      clear hc hx ht hle hb hlen
      generalize bulk (L.take i) = bt at *
      generalize x.l.length = xl at *
      have hz1 : (xl : Int) ≤ 2000000 := by omega
      have hz2 : (bt : Int) ≤ 2000000 := by omega
      go_wp2
      go_roundg (L.length - (i + 1))
      case measure => omega
      case rel => exact ⟨i + 1, by rw [HN.out]; go_num, by go_num, by omega, by omega, HS.out.trans (Stp.alloc [] _ _)⟩
    · have hltz : ¬ (i : Int) < (L.length : Int) := by omega
      obtain rfl : i = L.length := by omega
      rw [List.take_length]
      by_cases e : 1500 < bulk L
      · have ez : (1500 : Int) < ((bulk L : Nat) : Int) := by omega
        have HV : Aside (decide (1500 < bulk L) = true) := decide_eq_true e
        clear hb hlen e
        go_wp2
        go_ret
        exact ⟨by rw [HV.out]; rfl, HS.out⟩
      · have ez : ¬ (1500 : Int) < ((bulk L : Nat) : Int) := by omega
        have HV : Aside (decide (1500 < bulk L) = false) := decide_eq_false e
        clear hb hlen e
        go_wp2
        go_ret
        exact ⟨by rw [HV.out]; rfl, HS.out⟩
end Go.Proofs.YthfiilhbgogoaaaGreatDoor
/-
  From a row's reading of a slice of effects to the list of them, and how great it is.
-/
namespace Go.Proofs.YthfiilhbgogoaaaGreatDoor
open Go.ChangeShapes Go.WideShapes Go.ChangeAt Go.RowKit Go.Lib Go.Deep
set_option linter.unusedVariables false

section
variable {H : Type} {enc : TypeId × Value → H}
theorem bulk_one (d : DataW H) : 1 ≤ Rows.uptoBulk d := by
  cases d with
  | lit l => cases l <;> simp [Rows.uptoBulk]
  | nil => simp [Rows.uptoBulk]
  | ptr d => simp [Rows.uptoBulk]
  | slice elems spare => simp [Rows.uptoBulk]
  | agg parts => simp [Rows.uptoBulk]
  | iface t d => simp [Rows.uptoBulk]
  | map entries => simp [Rows.uptoBulk]
  | held h => simp [Rows.uptoBulk]
theorem bulk_length : ∀ l : List (DataW H), l.length ≤ Rows.uptoBulkAll l
  | [] => by simp
  | x :: r => by
    have h1 := bulk_one x
    have h2 := bulk_length r
    simp only [Rows.uptoBulkAll, List.length_cons]
    omega
theorem bulk_bytes {W : World} {fuel : Nat} {a : Option Addr} {len cap : Nat} {y : DataW H × List MemPlace} (hf : DataW.trod enc Tryz.prog W 0 (fun _ => true) true fuel 35 [.slice a len cap] = some y) : len ≤ Rows.uptoBulk y.1 := by
  rcases open_ints Tryz.underlying35 Tryz.underlying5 cByte hf with ⟨hcs, rfl⟩ | ⟨x, l, c, zs, hcs, _, hl, hm, hz, rfl, hcell, hwz⟩
  · simp at hcs
    omega
  · simp at hcs
    obtain ⟨rfl, rfl, rfl⟩ := hcs
    have hz' : zs.length = cap := by simpa using hz
    have h1 := bulk_length (lits (H := H) .u8 (zs.take len))
    have h2 : (lits (H := H) .u8 (zs.take len)).length = len := by simp [lits]; omega
    show len ≤ Rows.uptoBulk (.slice _ _)
    simp only [Rows.uptoBulk]
    omega
theorem trod_third {P : Program} {w : World} {base : Nat} {spare : Nat → Bool} {held : Bool} {t : TypeId} {f0 f1 f2 f3 f4 : Field} {fuel : Nat} {cs : List Value} {x : DataW H × List MemPlace} (ht : P.underlying t = some (.struct #[f0, f1, f2, f3, f4])) (h : DataW.trod enc P w base spare held fuel t cs = some x) :
    ∃ y0 y1 y2 y3 y4 n, x.1 = .agg [y0, y1, y2.1, y3, y4] ∧ DataW.trod enc P w base spare held n f2.type ((cs.drop f2.offset).take (P.cellsOf f2.type)) = some y2 := by
  obtain ⟨xs, n, _, rfl, hl, hlen, hf⟩ := DataW.trod_struct ht h
  match xs, hlen with
  | [y0, y1, y2, y3, y4], _ => exact ⟨y0.1, y1.1, y2, y3.1, y4.1, n, rfl, by simpa using hf 2 f2 rfl⟩
theorem bulk_effect {W : World} {fuel : Nat} {x : Ev} {y : DataW H × List MemPlace} (hf : DataW.trod enc Tryz.prog W 0 (fun _ => true) true fuel 43 (ev7 x) = some y) : 1 + x.l.length ≤ Rows.uptoBulk y.1 := by
  obtain ⟨y0, y1, y2, y3, y4, n, e, t2⟩ := trod_third Tryz.underlying43 hf
  simp only [ev7, cSl, List.drop_succ_cons, List.drop_zero, List.take_succ_cons, List.take_zero] at t2
  have h2 := bulk_bytes t2
  rw [e]
  simp only [Rows.uptoBulk, Rows.uptoBulkAll]
  omega
theorem bulk_map (f : Nat → Ev) (D : Nat → DataW H) : ∀ n, (∀ i, i < n → 1 + (f i).l.length ≤ Rows.uptoBulk (D i)) → bulk ((List.range n).map f) ≤ Rows.uptoBulkAll ((List.range n).map D)
  | 0, _ => by simp [bulk]
  | n + 1, h => by
    have h1 := bulk_map f D n (fun i hi => h i (by omega))
    have h2 := h n (by omega)
    have app : ∀ l r : List (DataW H), Rows.uptoBulkAll (l ++ r) = Rows.uptoBulkAll l + Rows.uptoBulkAll r := by
      intro l r
      induction l with
      | nil => simp [Rows.uptoBulkAll]
      | cons x l ih => simp only [List.cons_append, Rows.uptoBulkAll, ih]; omega
    rw [List.range_succ, List.map_append, List.map_append, bulk_app, app]
    have e1 : bulk ([n].map f) = 1 + (f n).l.length := by simp [bulk]
    have e2 : Rows.uptoBulkAll ([n].map D) = Rows.uptoBulk (D n) := by simp [Rows.uptoBulkAll]
    omega
set_option maxRecDepth 100000 in
theorem open_effects {W : World} {base : Nat} {v : Value} {d : DataW H} {p : List MemPlace} (hval : Value.okWide Tryz.prog W .any base 22 v)
    (h0 : DataW.Trod enc Tryz.prog W 0 (fun _ => true) true 22 v d p) : ∃ (a : Option Addr) (cap : Nat) (L : List Ev), v = .slice a L.length cap ∧ Er W a L ∧ (∀ x ∈ L, Ek W x) ∧ (a = none → cap = 0) ∧ bulk L ≤ Rows.uptoBulk d := by
  obtain ⟨a, len, cap, rfl⟩ := okWide_slice Tryz.underlying22 hval
  obtain ⟨fuel, hf⟩ := h0
  rcases open_slice Tryz.underlying22 hf with ⟨hcs, _⟩ | ⟨x, l, c, m, n, D, Pl, hcs, _, hl, hm, hmm, hx, hi⟩
  · simp [Value.cells] at hcs
    obtain ⟨rfl, rfl, rfl⟩ := hcs
    exact ⟨none, 0, [], rfl, ⟨fun x h => (by cases h), fun h => absurd rfl h⟩, fun x h => (by cases h), fun _ => rfl, by simp [bulk]⟩
  · simp [Value.cells] at hcs
    obtain ⟨rfl, rfl, rfl⟩ := hcs
    simp only [if_true] at hmm
    subst hmm
    have one : ∀ i, i < len → ∃ y : Ev, (∀ j u, (ev7 y)[j]? = some u → W.cell? ((x.add (i * 7)).add j) = some u) ∧ Ek W y ∧ 1 + y.l.length ≤ Rows.uptoBulk (D i) := by
      intro i hil
      obtain ⟨cs', hc, ht⟩ := hi i (by omega)
      rw [cEff] at hc
      obtain ⟨_, hcl, hat⟩ := World.cells?_some hc
      obtain ⟨y, rfl, hk⟩ := open_cells hcl ht
      refine ⟨y, fun j u hu => ?_, hk, bulk_effect ht⟩
      have hj : j < 7 := by
        have := (List.getElem?_eq_some_iff.1 hu).1
        simpa [ev7] using this
      rw [hat j hj]
      exact hu
    obtain ⟨f, hf'⟩ : ∃ f : Nat → Ev, ∀ i, i < len → (∀ j u, (ev7 (f i))[j]? = some u → W.cell? ((x.add (i * 7)).add j) = some u) ∧ Ek W (f i) ∧ 1 + (f i).l.length ≤ Rows.uptoBulk (D i) := by
      refine ⟨fun i => if h : i < len then Classical.choose (one i h) else ⟨0, 0, 0, 0, none, 0, [], 0, false⟩, fun i hi => ?_⟩
      simp only [dif_pos hi]
      exact Classical.choose_spec (one i hi)
    have hlen : ((List.range len).map f).length = len := by simp
    have hmem : ∀ y ∈ (List.range len).map f, Ek W y := fun y hy => by
      obtain ⟨i, hi, rfl⟩ := List.mem_map.1 hy
      exact (hf' i (List.mem_range.1 hi)).2.1
    refine ⟨some x, m, (List.range len).map f, by rw [hlen], ⟨fun y hy => (hmem y hy).ed, fun hne => ?_⟩, hmem, (fun h => by cases h), ?_⟩
    · have hlen0 : 0 < len := by
        rcases Nat.eq_zero_or_pos len with e | e
        · subst e
          simp at hne
        · exact e
      obtain ⟨b, off, spot⟩ := x
      have hc0 := (hf' 0 hlen0).1 0 _ rfl
      have hspot : spot = none := by simpa [Addr.add] using World.cell?_spot hc0
      subst hspot
      refine ⟨b, off, rfl, fun i y hy => ?_⟩
      have hil : i < len := by
        have := (List.getElem?_eq_some_iff.1 hy).1
        rwa [hlen] at this
      have hyf : y = f i := by
        simp [hil] at hy
        exact hy.symm
      subst hyf
      have hc := (hf' i hil).1
      simp only [addr_add] at hc
      exact ⟨hc 0 _ rfl, hc 1 _ rfl, hc 2 _ rfl, hc 3 _ rfl, hc 4 _ rfl, hc 5 _ rfl, hc 6 _ rfl⟩
    · have h1 := bulk_map f D len (fun i hi => (hf' i hi).2.2)
      have hd : Rows.uptoBulkAll ((List.range len).map D) ≤ Rows.uptoBulk d := by
        have := congrArg Prod.fst hx
        simp only at this
        rw [this]
        simp only [Rows.uptoBulk]
        omega
      omega
end
end Go.Proofs.YthfiilhbgogoaaaGreatDoor
/-
  What is written is read, and what is read is written: of one line. No walk stands in this text.
-/
namespace Go.Proofs.YthfiilhbgogoaaaGreatDoor
open Go.RowKit Go.Lib
set_option linter.unusedVariables false

/-- An effect is what was read. -/
structure Mt (x : Ev) (y : Nat × Ef) : Prop where
  k : x.k = (y.1 : Int)
  f : x.f = y.2.f
  m : x.m = y.2.m
  t : x.t = y.2.t
  l : x.l = y.2.d
  n : x.n = (y.2.n : Int)
  ok : x.ok = y.2.ok
/-- What an effect's line tells. -/
def efo (x : Ev) : Nat × Ef := (x.k.toNat, ⟨x.f, x.m, x.t, x.l, x.n.toNat, x.ok⟩)

/-! ### Numbers, bytes, attributes -/
theorem num_sound {s : List UInt8} {n : Nat} (h : num s = some n) : dig 10 n = s := by
  rw [num_rnum] at h
  exact rnum_sound h
theorem num_dig {n : Nat} (h : n < 10 ^ 18) : num (dig 10 n) = some n := by
  rw [num_rnum]
  exact rnum_dig (.inl rfl) (dig_len (by omega) 17 n h)
theorem dig_pow : ∀ n : Nat, n < 10 ^ (dig 10 n).length := by
  intro n
  induction n using Nat.strongRecOn with
  | _ n ih =>
    rcases Nat.lt_or_ge n 10 with h | h
    · rw [dig_lt h]
      simpa using h
    · rw [dig_ge (by omega) h, List.length_append, List.length_singleton, Nat.pow_succ]
      have := ih (n / 10) (by omega)
      omega
theorem num_lt {s : List UInt8} {n : Nat} (h : num s = some n) : n < 10 ^ 18 := by
  have h1 := num_sound h
  rw [num_rnum] at h
  have h2 := rnum_short h
  have h3 := dig_pow n
  rw [h1] at h3
  exact Nat.lt_of_lt_of_le h3 (Nat.pow_le_pow_right (by omega) h2)
theorem hx_hexd : ∀ d, d < 16 → hx (hexd d) = (d : Int) := by decide
theorem hx_only (c : UInt8) (h : ¬ hx c < 0) : c = hexd (hx c).toNat ∧ (hx c).toNat < 16 := by
  have key : ∀ n, n < 256 → (¬ hx (UInt8.ofNat n) < 0 → UInt8.ofNat n = hexd (hx (UInt8.ofNat n)).toNat ∧ (hx (UInt8.ofNat n)).toNat < 16) := by decide +kernel
  have := key c.toNat c.toNat_lt
  rw [UInt8.ofNat_toNat] at this
  exact this h
theorem hexd_no : ∀ d, d < 16 → hexd d ≠ 32 ∧ hexd d ≠ 10 := by decide
theorem hexs_cons (c : UInt8) (l : List UInt8) : hexs (c :: l) = hexd (c.toNat / 16) :: hexd (c.toNat % 16) :: hexs l := rfl
theorem pairs_hexs (l : List UInt8) : pairs (hexs l) = some l := by
  induction l with
  | nil => rfl
  | cons c l ih =>
    have h1 : c.toNat / 16 < 16 := by have := c.toNat_lt; omega
    have h2 : c.toNat % 16 < 16 := by omega
    rw [hexs_cons]
    unfold pairs
    rw [hx_hexd _ h1, hx_hexd _ h2, if_neg (by omega), ih]
    simp only [Option.map_some, Option.some.injEq, List.cons.injEq, and_true]
    have e : ((c.toNat / 16 : Nat) : Int) * 16 + ((c.toNat % 16 : Nat) : Int) = ((c.toNat : Nat) : Int) := by omega
    rw [e]
    simp
theorem pairs_sound : ∀ (s d : List UInt8), pairs s = some d → hexs d = s
  | [], d, h => by
    simp only [pairs, Option.some.injEq] at h
    rw [← h]
    rfl
  | [_], d, h => by simp [pairs] at h
  | a :: b :: r, d, h => by
    unfold pairs at h
    by_cases hn : hx a < 0 ∨ hx b < 0
    · rw [if_pos hn] at h
      cases h
    · rw [if_neg hn] at h
      obtain ⟨ha, ha2⟩ := hx_only a (fun g => hn (.inl g))
      obtain ⟨hb, hb2⟩ := hx_only b (fun g => hn (.inr g))
      cases hp : pairs r with
      | none => rw [hp] at h; cases h
      | some d' =>
        rw [hp] at h
        simp only [Option.map_some, Option.some.injEq] at h
        subst h
        have e1 : (hx a * 16 + hx b).toNat = (hx a).toNat * 16 + (hx b).toNat := by omega
        have e2 : ((hx a * 16 + hx b).toNat.toUInt8).toNat = (hx a).toNat * 16 + (hx b).toNat := by
          rw [e1]
          simp only [Nat.toUInt8, UInt8.toNat_ofNat']
          exact Nat.mod_eq_of_lt (by omega)
        rw [hexs_cons, e2, show ((hx a).toNat * 16 + (hx b).toNat) / 16 = (hx a).toNat by omega, show ((hx a).toNat * 16 + (hx b).toNat) % 16 = (hx b).toNat by omega, ← ha, ← hb, pairs_sound r d' hp]
theorem unhex_hext (l : List UInt8) : unhex (hext l) = some l := by
  cases l with
  | nil => rfl
  | cons c l =>
    have e : hext (c :: l) = hexs (c :: l) := rfl
    have hl := hexs_len (c :: l)
    rw [e]
    unfold unhex
    rw [if_neg (fun g => by rw [g] at hl; simp at hl; omega), if_neg (fun g => by
      rcases g with g | g
      · rw [g] at hl; simp at hl
      · omega), pairs_hexs]
theorem hext_unhex {s d : List UInt8} (h : unhex s = some d) : hext d = s := by
  unfold unhex at h
  by_cases h1 : s = [45]
  · rw [if_pos h1] at h
    cases h
    rw [h1]
    rfl
  · rw [if_neg h1] at h
    by_cases h2 : s = [] ∨ s.length % 2 ≠ 0
    · rw [if_pos h2] at h
      cases h
    · rw [if_neg h2] at h
      have e := pairs_sound s d h
      unfold hext
      rw [if_neg]
      · exact e
      · intro g
        subst g
        exact h2 (.inl e.symm)

/-! ### No blank, and no line's end, in a word -/
theorem dch_ten : ∀ d, d < 16 → dch d ≠ 10 := by decide
theorem dig_ten {b : Nat} (hb : 2 ≤ b) (h16 : b ≤ 16) (n : Nat) : (10 : UInt8) ∉ dig b n := by
  intro h
  obtain ⟨d, hd, e⟩ := dig_mem hb h16 n _ h
  exact dch_ten d (by omega) e.symm
theorem nm_ten : ∀ j, j < 7 → (10 : UInt8) ∉ nm j := by decide
theorem ftext_ten (f : Nat) : (10 : UInt8) ∉ ftext f := by
  unfold ftext
  split
  · decide
  · refine join_mem (by decide) (fun p hp => ?_)
    rcases parts_mem f p hp with ⟨j, hj, rfl, _⟩ | ⟨rfl, _⟩
    · exact nm_ten j hj
    · simp only [List.mem_cons, not_or]
      exact ⟨by decide, dig_ten (by omega) (by omega) _⟩
theorem hext_no (l : List UInt8) : (32 : UInt8) ∉ hext l ∧ (10 : UInt8) ∉ hext l := by
  have key : ∀ l : List UInt8, (32 : UInt8) ∉ hexs l ∧ (10 : UInt8) ∉ hexs l := by
    intro l
    induction l with
    | nil => exact ⟨by simp [hexs], by simp [hexs]⟩
    | cons c l ih =>
      have h1 := hexd_no (c.toNat / 16) (by have := c.toNat_lt; omega)
      have h2 := hexd_no (c.toNat % 16) (by omega)
      rw [hexs_cons]
      simp only [List.mem_cons, not_or]
      exact ⟨⟨fun e => h1.1 e.symm, fun e => h2.1 e.symm, ih.1⟩, ⟨fun e => h1.2 e.symm, fun e => h2.2 e.symm, ih.2⟩⟩
  cases l with
  | nil => exact ⟨by decide, by decide⟩
  | cons c l => exact key (c :: l)
def okt (b : Bool) : List UInt8 := if b then [111, 107] else [102, 97, 105, 108]
theorem okt_no (b : Bool) : (32 : UInt8) ∉ okt b ∧ (10 : UInt8) ∉ okt b := by cases b <;> decide
theorem tk_okt (b : Bool) (x : Ef) : tk .ok x (okt b) = some { x with ok := b } := by cases b <;> rfl
theorem tk_ok_only {x y : Ef} {s : List UInt8} (h : tk .ok x s = some y) : s = okt y.ok ∧ y = { x with ok := y.ok } := by
  unfold tk at h
  simp only at h
  by_cases h1 : s = [111, 107]
  · rw [if_pos h1] at h
    cases h
    exact ⟨h1, rfl⟩
  · rw [if_neg h1] at h
    by_cases h2 : s = [102, 97, 105, 108]
    · rw [if_pos h2] at h
      cases h
      exact ⟨h2, rfl⟩
    · rw [if_neg h2] at h
      cases h
theorem tk_num_only {x y : Ef} {s : List UInt8} (h : tk .num x s = some y) : s = dig 10 y.n ∧ y = { x with n := y.n } ∧ y.n < 10 ^ 18 := by
  unfold tk at h
  simp only at h
  cases e : num s with
  | none => rw [e] at h; cases h
  | some n =>
    rw [e] at h
    cases h
    exact ⟨(num_sound e).symm, rfl, num_lt e⟩
theorem tk_data_only {x y : Ef} {s : List UInt8} (h : tk .data x s = some y) : s = hext y.d ∧ y = { x with d := y.d } := by
  unfold tk at h
  simp only at h
  cases e : unhex s with
  | none => rw [e] at h; cases h
  | some n =>
    rw [e] at h
    cases h
    exact ⟨(hext_unhex e).symm, rfl⟩
theorem tk_attrs_only {x y : Ef} {s : List UInt8} (h : tk .attrs x s = some y) : s = text y.f y.m y.t ∧ y = { x with f := y.f, m := y.m, t := y.t } ∧ Ok y.f y.m y.t := by
  unfold tk at h
  simp only at h
  by_cases h1 : text (rdf s) (rdm s) (rdt s) = s
  · rw [if_pos h1] at h
    cases h
    exact ⟨h1.symm, rfl, rd_ok s⟩
  · rw [if_neg h1] at h
    cases h

/-! ### What is read is written -/
/-- The words of a line, one behind the other. -/
def lineOf (y : Nat × Ef) : List UInt8 := match y.1 with
  | 0 => [103, 111, 116] ++ 32 :: (okt y.2.ok ++ 32 :: text y.2.f y.2.m y.2.t)
  | 1 => [119, 97, 115] ++ 32 :: (okt y.2.ok ++ 32 :: text y.2.f y.2.m y.2.t)
  | 2 => [119, 114, 111, 116, 101] ++ 32 :: (okt y.2.ok ++ 32 :: (hext y.2.d ++ 32 :: dig 10 y.2.n))
  | 3 => [114, 101, 97, 100] ++ 32 :: (okt y.2.ok ++ 32 :: dig 10 y.2.n)
  | 4 => [115, 105, 103, 110, 97, 108] ++ 32 :: dig 10 y.2.n
  | 5 => [101, 110, 100]
  | _ => [104, 105, 115, 116, 111, 114, 121]
/-- It has no more than its line tells. -/
def Lean1 (y : Nat × Ef) : Prop := match y.1 with
  | 0 | 1 => y.2.d = [] ∧ y.2.n = 0
  | 2 => y.2.f = 0 ∧ y.2.m = 0 ∧ y.2.t = 0
  | 3 => y.2.f = 0 ∧ y.2.m = 0 ∧ y.2.t = 0 ∧ y.2.d = []
  | 4 => y.2.f = 0 ∧ y.2.m = 0 ∧ y.2.t = 0 ∧ y.2.d = [] ∧ y.2.ok = false
  | 5 | 6 => y.2.f = 0 ∧ y.2.m = 0 ∧ y.2.t = 0 ∧ y.2.d = [] ∧ y.2.ok = false ∧ y.2.n = 0
  | _ => False
theorem rf_join {s : List UInt8} {L : List (List UInt8)} (h : spl 32 s = L) : s = Lib.join L [32] := by rw [← h, spl_glue]
theorem rd_line {s : List UInt8} {y : Nat × Ef} (h : rdAll s = some y) : s = lineOf y ∧ Lean1 y ∧ Ok y.2.f y.2.m y.2.t ∧ y.2.n < 10 ^ 18 := by
  have hz : Ok 0 0 0 := ⟨by omega, by omega, by omega⟩
  have h0 : (0 : Nat) < 10 ^ 18 := by decide
  rw [rdAll_rf] at h
  unfold rf at h
  by_cases h5 : s = [101, 110, 100]
  · rw [if_pos h5] at h
    cases h
    exact ⟨h5, ⟨rfl, rfl, rfl, rfl, rfl, rfl⟩, hz, h0⟩
  rw [if_neg h5] at h
  by_cases h6 : s = [104, 105, 115, 116, 111, 114, 121]
  · rw [if_pos h6] at h
    cases h
    exact ⟨h6, ⟨rfl, rfl, rfl, rfl, rfl, rfl⟩, hz, h0⟩
  rw [if_neg h6] at h
  obtain ⟨L, hL⟩ : ∃ L, spl 32 s = L := ⟨_, rfl⟩
  have hs := rf_join hL
  rw [hL] at h
  rcases L with _ | ⟨a, _ | ⟨b, _ | ⟨c, _ | ⟨d, _ | ⟨e, _ | ⟨f, r⟩⟩⟩⟩⟩⟩
  · cases h
  · cases h
  · unfold rfL at h
    dsimp only at h
    by_cases g : a = [115, 105, 103, 110, 97, 108]
    · rw [if_pos g] at h
      simp only [tks] at h
      cases e1 : tk .num E0 b with
      | none => rw [e1] at h; cases h
      | some z =>
        rw [e1] at h
        obtain ⟨q1, q2, q0⟩ := tk_num_only e1
        cases h
        refine ⟨?_, ?_, ?_, q0⟩
        · rw [hs, join_cons2, Lib.join_one, g, q1]
          rfl
        · rw [q2]
          exact ⟨rfl, rfl, rfl, rfl, rfl⟩
        · rw [q2]
          exact hz
    · rw [if_neg g] at h
      cases h
  · unfold rfL at h
    dsimp only at h
    by_cases g : a = [114, 101, 97, 100]
    · rw [if_pos g] at h
      simp only [tks] at h
      cases e1 : tk .ok E0 b with
      | none => rw [e1] at h; cases h
      | some z =>
        rw [e1] at h
        simp only at h
        obtain ⟨q1, q2⟩ := tk_ok_only e1
        cases e2 : tk .num z c with
        | none => rw [e2] at h; cases h
        | some u =>
          rw [e2] at h
          obtain ⟨q3, q4, q0⟩ := tk_num_only e2
          cases h
          have hok : z.ok = u.ok := by rw [q4]
          rw [q2] at q4
          refine ⟨?_, ?_, ?_, q0⟩
          · rw [hs, join_cons2, join_cons2, Lib.join_one, g, q1, q3, hok]
            rfl
          · rw [q4]
            exact ⟨rfl, rfl, rfl, rfl⟩
          · rw [q4]
            exact hz
    · rw [if_neg g] at h
      cases h
  · unfold rfL at h
    dsimp only at h
    by_cases g : a = [119, 114, 111, 116, 101]
    · rw [if_pos g] at h
      simp only [tks] at h
      cases e1 : tk .ok E0 b with
      | none => rw [e1] at h; cases h
      | some z =>
        rw [e1] at h
        simp only at h
        obtain ⟨q1, q2⟩ := tk_ok_only e1
        cases e2 : tk .data z c with
        | none => rw [e2] at h; cases h
        | some u =>
          rw [e2] at h
          simp only at h
          obtain ⟨q3, q4⟩ := tk_data_only e2
          cases e3 : tk .num u d with
          | none => rw [e3] at h; cases h
          | some v =>
            rw [e3] at h
            obtain ⟨q5, q6, q0⟩ := tk_num_only e3
            cases h
            have hok : z.ok = v.ok := by rw [q6, q4]
            have hd : u.d = v.d := by rw [q6]
            rw [q2] at q4
            rw [q4] at q6
            refine ⟨?_, ?_, ?_, q0⟩
            · rw [hs, join_cons2, join_cons2, join_cons2, Lib.join_one, g, q1, q3, q5, hok, hd]
              rfl
            · rw [q6]
              exact ⟨rfl, rfl, rfl⟩
            · rw [q6]
              exact hz
    · rw [if_neg g] at h
      cases h
  · unfold rfL at h
    dsimp only at h
    have two : ∀ (k : Nat) (nmx : List UInt8), k = 0 ∧ nmx = [103, 111, 116] ∨ k = 1 ∧ nmx = [119, 97, 115] → a = nmx → ((tks [.ok, .attrs] [b, c ++ 32 :: (d ++ 32 :: e)] E0).map fun x => (k, x)) = some y → s = lineOf y ∧ Lean1 y ∧ Ok y.2.f y.2.m y.2.t ∧ y.2.n < 10 ^ 18 := by
      intro k nmx hk g h
      simp only [tks] at h
      cases e1 : tk .ok E0 b with
      | none => rw [e1] at h; cases h
      | some z =>
        rw [e1] at h
        simp only at h
        obtain ⟨q1, q2⟩ := tk_ok_only e1
        cases e2 : tk .attrs z (c ++ 32 :: (d ++ 32 :: e)) with
        | none => rw [e2] at h; cases h
        | some u =>
          rw [e2] at h
          obtain ⟨q3, q4, q5⟩ := tk_attrs_only e2
          cases h
          rw [q2] at q4
          have q6 : s = nmx ++ 32 :: (okt u.ok ++ 32 :: text u.f u.m u.t) := by
            rw [hs, join_cons2, join_cons2, join_cons2, join_cons2, Lib.join_one, g, q3, q1]
            rw [show z.ok = u.ok by rw [q4]]
          refine ⟨?_, ?_, q5, by rw [q4]; exact h0⟩
          · rw [q6]
            rcases hk with ⟨rfl, rfl⟩ | ⟨rfl, rfl⟩ <;> rfl
          · rcases hk with ⟨rfl, rfl⟩ | ⟨rfl, rfl⟩
            · exact ⟨by rw [q4]; rfl, by rw [q4]; rfl⟩
            · exact ⟨by rw [q4]; rfl, by rw [q4]; rfl⟩
    by_cases g : a = [103, 111, 116]
    · rw [if_pos g] at h
      exact two 0 _ (.inl ⟨rfl, rfl⟩) g h
    · rw [if_neg g] at h
      by_cases g2 : a = [119, 97, 115]
      · rw [if_pos g2] at h
        exact two 1 _ (.inr ⟨rfl, rfl⟩) g2 h
      · rw [if_neg g2] at h
        cases h
  · cases h
end Go.Proofs.YthfiilhbgogoaaaGreatDoor
/-
  What is written is read, and what is read is written: of a whole text. No walk stands in this text.
-/
namespace Go.Proofs.YthfiilhbgogoaaaGreatDoor
open Go.RowKit Go.Lib
set_option linter.unusedVariables false

/-! ### An effect's line -/
theorem bare_yes {x : Ev} (h : bare x = true) : x.f = 0 ∧ x.m = 0 ∧ x.t = 0 ∧ x.l = [] ∧ x.n = 0 ∧ x.ok = false := of_decide_eq_true h
theorem lnE_ok {x : Ev} (h : (lnE x).2 = 0) : (lnE x).1 = lineOf (efo x) ∧ Lean1 (efo x) ∧ Mt x (efo x) := by
  unfold lnE at h ⊢
  by_cases hk : x.k < 0 ∨ 7 ≤ x.k
  · rw [if_pos hk] at h
    exact absurd h (by decide)
  rw [if_neg hk] at h ⊢
  obtain ⟨k, f, m, t, a, c, l, n, ok⟩ := x
  dsimp only at hk h ⊢
  obtain ⟨i, rfl, hi⟩ : ∃ i : Nat, k = (i : Int) ∧ i < 7 := ⟨k.toNat, by omega, by omega⟩
  rw [Int.toNat_natCast] at h ⊢
  by_cases hn : n < 0
  · exfalso
    rcases (by omega : i = 0 ∨ i = 1 ∨ i = 2 ∨ i = 3 ∨ i = 4 ∨ i = 5 ∨ i = 6) with rfl | rfl | rfl | rfl | rfl | rfl | rfl
    all_goals
      simp only [FL, List.getElem?_cons_zero, List.getElem?_cons_succ] at h
      rw [if_pos (.inl hn)] at h
      exact absurd h (by decide)
  obtain ⟨n', rfl⟩ : ∃ n' : Nat, n = (n' : Int) := ⟨n.toNat, by omega⟩
  rcases (by omega : i = 0 ∨ i = 1 ∨ i = 2 ∨ i = 3 ∨ i = 4 ∨ i = 5 ∨ i = 6) with rfl | rfl | rfl | rfl | rfl | rfl | rfl
  all_goals
    simp only [FL, List.getElem?_cons_zero, List.getElem?_cons_succ] at h ⊢
    split at h
    · exact absurd h (by decide)
    · rename_i hb
      rw [if_neg hb]
      have hb2 := bare_yes (eq_true_of_ne_false (fun e => hb (.inr e)))
      simp only [offs, off] at hb2
      refine ⟨?_, ?_, ⟨rfl, rfl, rfl, rfl, rfl, rfl, rfl⟩⟩
      · simp [wks, wt, off, lineOf, efo, okt] <;> (cases ok <;> rfl)
      · simp only [Lean1, efo]
        simp at hb2 ⊢
        try omega
        try simp [hb2]
theorem lnE_of {x : Ev} {y : Nat × Ef} (h : Mt x y) (hl : Lean1 y) : lnE x = (lineOf y, 0) := by
  obtain ⟨k, f, m, t, a, c, l, n, ok⟩ := x
  obtain ⟨i, f', m', t', d', n', ok'⟩ := y
  obtain ⟨h1, h2, h3, h4, h5, h6, h7⟩ := h
  dsimp only at h1 h2 h3 h4 h5 h6 h7
  subst h1 h2 h3 h4 h5 h6 h7
  have hi : i < 7 := by
    rcases i with _ | _ | _ | _ | _ | _ | _ | i
    all_goals first | omega | exact hl.elim
  unfold lnE
  rw [if_neg (by dsimp only; omega)]
  dsimp only
  rw [Int.toNat_natCast]
  rcases (by omega : i = 0 ∨ i = 1 ∨ i = 2 ∨ i = 3 ∨ i = 4 ∨ i = 5 ∨ i = 6) with rfl | rfl | rfl | rfl | rfl | rfl | rfl
  all_goals
    simp only [FL, List.getElem?_cons_zero, List.getElem?_cons_succ]
    simp only [Lean1] at hl
    rw [if_neg (by simp [offs, off, bare, hl])]
    simp [wks, wt, off, lineOf, okt, hl]
theorem rd_lineOf {y : Nat × Ef} (hl : Lean1 y) (ho : Ok y.2.f y.2.m y.2.t) (hn : y.2.n < 10 ^ 18) : rdAll (lineOf y) = some y := by
  obtain ⟨i, f, m, t, d, n, ok⟩ := y
  dsimp only at ho hn
  rw [rdAll_rf]
  have d32 := (dig_no (b := 10) (by omega) (by omega) n).1
  have o32 := (okt_no ok).1
  have h32 := (hext_no d).1
  have hi : i < 7 := by
    rcases i with _ | _ | _ | _ | _ | _ | _ | i
    all_goals first | omega | exact hl.elim
  have ne : ∀ (w r : List UInt8), (32 : UInt8) ∉ w → w ++ 32 :: r ≠ [101, 110, 100] ∧ w ++ 32 :: r ≠ [104, 105, 115, 116, 111, 114, 121] := fun w r _ => by
    have h1 : (32 : UInt8) ∈ w ++ 32 :: r := by simp
    exact ⟨fun e => by rw [e] at h1; exact absurd h1 (by decide), fun e => by rw [e] at h1; exact absurd h1 (by decide)⟩
  rcases (by omega : i = 0 ∨ i = 1 ∨ i = 2 ∨ i = 3 ∨ i = 4 ∨ i = 5 ∨ i = 6) with rfl | rfl | rfl | rfl | rfl | rfl | rfl
  · have hq := ne [103, 111, 116] (okt ok ++ 32 :: text f m t) (by decide)
    show rf ([103, 111, 116] ++ 32 :: (okt ok ++ 32 :: text f m t)) = _
    unfold rf
    rw [if_neg hq.1, if_neg hq.2, spl_app _ (by decide), spl_app _ o32, text_spl]
    unfold rfL
    dsimp only
    rw [if_pos rfl]
    simp only [tks, tk_okt]
    have e : ftext f ++ 32 :: (dig 10 m ++ 32 :: dig 10 t) = text f m t := rfl
    obtain ⟨r1, r2, r3⟩ := rd_text ho
    simp only [e, tk, r1, r2, r3, if_true]
    obtain ⟨rfl, rfl⟩ := hl
    rfl
  · have hq := ne [119, 97, 115] (okt ok ++ 32 :: text f m t) (by decide)
    show rf ([119, 97, 115] ++ 32 :: (okt ok ++ 32 :: text f m t)) = _
    unfold rf
    rw [if_neg hq.1, if_neg hq.2, spl_app _ (by decide), spl_app _ o32, text_spl]
    unfold rfL
    dsimp only
    rw [if_neg (by decide), if_pos rfl]
    simp only [tks, tk_okt]
    have e : ftext f ++ 32 :: (dig 10 m ++ 32 :: dig 10 t) = text f m t := rfl
    obtain ⟨r1, r2, r3⟩ := rd_text ho
    simp only [e, tk, r1, r2, r3, if_true]
    obtain ⟨rfl, rfl⟩ := hl
    rfl
  · have hq := ne [119, 114, 111, 116, 101] (okt ok ++ 32 :: (hext d ++ 32 :: dig 10 n)) (by decide)
    show rf ([119, 114, 111, 116, 101] ++ 32 :: (okt ok ++ 32 :: (hext d ++ 32 :: dig 10 n))) = _
    unfold rf
    rw [if_neg hq.1, if_neg hq.2, spl_app _ (by decide), spl_app _ o32, spl_app _ h32, spl_none d32]
    unfold rfL
    dsimp only
    rw [if_pos rfl]
    simp only [tks, tk_okt]
    simp only [tk, unhex_hext, num_dig hn, Option.map_some]
    obtain ⟨rfl, rfl, rfl⟩ := hl
    rfl
  · have hq := ne [114, 101, 97, 100] (okt ok ++ 32 :: dig 10 n) (by decide)
    show rf ([114, 101, 97, 100] ++ 32 :: (okt ok ++ 32 :: dig 10 n)) = _
    unfold rf
    rw [if_neg hq.1, if_neg hq.2, spl_app _ (by decide), spl_app _ o32, spl_none d32]
    unfold rfL
    dsimp only
    rw [if_pos rfl]
    simp only [tks, tk_okt]
    simp only [tk, num_dig hn, Option.map_some]
    obtain ⟨rfl, rfl, rfl, rfl⟩ := hl
    rfl
  · have hq := ne [115, 105, 103, 110, 97, 108] (dig 10 n) (by decide)
    show rf ([115, 105, 103, 110, 97, 108] ++ 32 :: dig 10 n) = _
    unfold rf
    rw [if_neg hq.1, if_neg hq.2, spl_app _ (by decide), spl_none d32]
    unfold rfL
    dsimp only
    rw [if_pos rfl]
    simp only [tks]
    simp only [tk, num_dig hn, Option.map_some]
    obtain ⟨rfl, rfl, rfl, rfl, rfl⟩ := hl
    rfl
  · obtain ⟨rfl, rfl, rfl, rfl, rfl, rfl⟩ := hl
    rfl
  · obtain ⟨rfl, rfl, rfl, rfl, rfl, rfl⟩ := hl
    rfl
theorem lineOf_ten {y : Nat × Ef} (hl : Lean1 y) : (10 : UInt8) ∉ lineOf y := by
  obtain ⟨i, f, m, t, d, n, ok⟩ := y
  have t10 : (10 : UInt8) ∉ text f m t := by
    unfold text
    simp only [List.mem_append, List.mem_cons, not_or]
    exact ⟨ftext_ten f, by decide, dig_ten (by omega) (by omega) m, by decide, dig_ten (by omega) (by omega) t⟩
  have d10 := dig_ten (b := 10) (by omega) (by omega) n
  have o10 := (okt_no ok).2
  have h10 := (hext_no d).2
  have hi : i < 7 := by
    rcases i with _ | _ | _ | _ | _ | _ | _ | i
    all_goals first | omega | exact hl.elim
  rcases (by omega : i = 0 ∨ i = 1 ∨ i = 2 ∨ i = 3 ∨ i = 4 ∨ i = 5 ∨ i = 6) with rfl | rfl | rfl | rfl | rfl | rfl | rfl
  all_goals simp [lineOf, t10, d10, o10, h10]

/-! ### A text -/
/-- What is parsed of lines, from the line n on: the effects, or none; and which line. -/
def prs : List (List UInt8) → Nat → Option (List (Nat × Ef)) × Nat
  | [], n => (none, n)
  | [p], n => if p = [] then (some [], n) else (none, n)
  | p :: q :: r, n => match rdAll p with
    | none => (none, n)
    | some y => ((prs (q :: r) (n + 1)).1.map (y :: ·), (prs (q :: r) (n + 1)).2)
/-- The text of effects. -/
def txt (Y : List (Nat × Ef)) : List UInt8 := Y.flatMap fun y => lineOf y ++ [10]
theorem txt_cons (y : Nat × Ef) (Y : List (Nat × Ef)) : txt (y :: Y) = lineOf y ++ 10 :: txt Y := by simp [txt]
theorem prs_txt : ∀ (Y : List (Nat × Ef)) (k : Nat), (∀ y ∈ Y, Lean1 y ∧ Ok y.2.f y.2.m y.2.t ∧ y.2.n < 10 ^ 18) → prs (spl 10 (txt Y)) k = (some Y, k + Y.length)
  | [], k, _ => rfl
  | y :: Y, k, h => by
    obtain ⟨h1, h2, h3⟩ := h y (by simp)
    have ih := prs_txt Y (k + 1) (fun z hz => h z (by simp [hz]))
    rw [txt_cons, spl_app _ (lineOf_ten h1)]
    cases e : spl 10 (txt Y) with
    | nil => exact absurd e (spl_ne 10 _)
    | cons q r =>
      rw [e] at ih
      simp only [prs, rd_lineOf h1 h2 h3, ih, Option.map_some, List.length_cons, Prod.mk.injEq, true_and]
      omega
theorem prs_join : ∀ (R : List (List UInt8)) (k k' : Nat) (Y : List (Nat × Ef)), prs R k = (some Y, k') → Lib.join R [10] = txt Y ∧ (∀ y ∈ Y, Lean1 y ∧ Ok y.2.f y.2.m y.2.t ∧ y.2.n < 10 ^ 18) ∧ k' = k + Y.length
  | [], k, k', Y, h => by simp [prs] at h
  | [p], k, k', Y, h => by
    unfold prs at h
    by_cases hp : p = []
    · rw [if_pos hp] at h
      simp only [Prod.mk.injEq, Option.some.injEq] at h
      obtain ⟨rfl, rfl⟩ := h
      rw [hp, Lib.join_one]
      exact ⟨rfl, by simp, by simp⟩
    · rw [if_neg hp] at h
      simp at h
  | p :: q :: r, k, k', Y, h => by
    unfold prs at h
    cases e : rdAll p with
    | none => rw [e] at h; simp at h
    | some y =>
      rw [e] at h
      simp only [Prod.mk.injEq, Option.map_eq_some_iff] at h
      obtain ⟨⟨Y', h1, rfl⟩, h2⟩ := h
      obtain ⟨q1, q2, q3⟩ := prs_join (q :: r) (k + 1) k' Y' (Prod.ext h1 h2)
      obtain ⟨l1, l2⟩ := rd_line e
      rw [join_cons2, q1, l1, txt_cons]
      refine ⟨rfl, fun z hz => ?_, by rw [q3, List.length_cons]; omega⟩
      rcases List.mem_cons.1 hz with rfl | hz
      · exact l2
      · exact q2 z hz
theorem prs_sound {s : List UInt8} {k k' : Nat} {Y : List (Nat × Ef)} (h : prs (spl 10 s) k = (some Y, k')) : s = txt Y ∧ (∀ y ∈ Y, Lean1 y ∧ Ok y.2.f y.2.m y.2.t ∧ y.2.n < 10 ^ 18) ∧ k' = k + Y.length := by
  obtain ⟨h1, h2⟩ := prs_join _ _ _ _ h
  rw [spl_glue] at h1
  exact ⟨h1, h2⟩
/-- A row of effects is what was read. -/
def Mts (L : List Ev) (Y : List (Nat × Ef)) : Prop := L.length = Y.length ∧ ∀ (i : Nat) x y, L[i]? = some x → Y[i]? = some y → Mt x y
theorem Mts.nil : Mts [] [] := ⟨rfl, fun i x y h => by simp at h⟩
theorem Mts.snoc {L : List Ev} {Y : List (Nat × Ef)} {x : Ev} {y : Nat × Ef} (h : Mts L Y) (hm : Mt x y) : Mts (L ++ [x]) (Y ++ [y]) := by
  refine ⟨by simp [h.1], fun i u v hu hv => ?_⟩
  by_cases hi : i < L.length
  · rw [List.getElem?_append_left hi] at hu
    rw [List.getElem?_append_left (by rw [← h.1]; exact hi)] at hv
    exact h.2 i u v hu hv
  · rw [List.getElem?_append_right (by omega)] at hu
    rw [List.getElem?_append_right (by rw [← h.1]; omega), ← h.1] at hv
    cases e : i - L.length with
    | zero =>
      rw [e] at hu hv
      simp only [List.getElem?_cons_zero, Option.some.injEq] at hu hv
      rw [← hu, ← hv]
      exact hm
    | succ j =>
      rw [e] at hu
      simp at hu
theorem Mts.cons {L : List Ev} {Y : List (Nat × Ef)} {x : Ev} {y : Nat × Ef} (h : Mts (x :: L) (y :: Y)) : Mt x y ∧ Mts L Y :=
  ⟨h.2 0 x y rfl rfl, by simpa using h.1, fun i u v hu hv => h.2 (i + 1) u v (by simpa using hu) (by simpa using hv)⟩
theorem Mts.efo : ∀ {L : List Ev}, (∀ x ∈ L, (lnE x).2 = 0) → Mts L (L.map efo)
  | [], _ => Mts.nil
  | x :: L, h => by
    have ih := Mts.efo (L := L) (fun y hy => h y (by simp [hy]))
    refine ⟨by simp, fun i u v hu hv => ?_⟩
    cases i with
    | zero =>
      simp only [List.getElem?_cons_zero, Option.some.injEq, List.map_cons] at hu hv
      rw [← hu, ← hv]
      exact (lnE_ok (h x (by simp))).2.2
    | succ i => exact ih.2 i u v (by simpa using hu) (by simpa using hv)
theorem lnT_txt : ∀ {L : List Ev} {Y : List (Nat × Ef)}, Mts L Y → (∀ y ∈ Y, Lean1 y) → (∀ x ∈ L, (lnE x).2 = 0) ∧ lnT L = txt Y
  | [], [], _, _ => ⟨by simp, rfl⟩
  | [], y :: Y, h, _ => by have := h.1; simp at this
  | x :: L, [], h, _ => by have := h.1; simp at this
  | x :: L, y :: Y, h, hl => by
    obtain ⟨h1, h2⟩ := h.cons
    obtain ⟨q1, q2⟩ := lnT_txt h2 (fun z hz => hl z (by simp [hz]))
    have e := lnE_of h1 (hl y (by simp))
    refine ⟨fun z hz => ?_, ?_⟩
    · rcases List.mem_cons.1 hz with rfl | hz
      · rw [e]
      · exact q1 z hz
    · have : lnT (x :: L) = (lnE x).1 ++ [10] ++ lnT L := by simp [lnT]
      rw [this, e, q2, txt_cons]
      simp
/-- Effects' text is read as they are. -/
theorem prs_fm {L : List Ev} (h : (fm L).2 = 0) (hx : ∀ x ∈ L, Ok x.f x.m x.t ∧ x.n < 10 ^ 18) : prs (spl 10 (fm L).1) 0 = (some (L.map efo), L.length) ∧ Mts L (L.map efo) := by
  have hp : ∀ y ∈ L, (lnE y).2 = 0 := by
    intro y hy
    apply Classical.byContradiction
    intro hne
    obtain ⟨i, hi, e⟩ := List.getElem_of_mem hy
    unfold fm at h
    cases e2 : L.find? (fun x => decide ((lnE x).2 ≠ 0)) with
    | none =>
      have := List.find?_eq_none.1 e2 y hy
      simp at this
      exact hne this
    | some z =>
      rw [e2] at h
      have h3 := List.find?_some e2
      simp at h3
      exact h3 h
  have hm := Mts.efo hp
  have hl : ∀ y ∈ L.map efo, Lean1 y ∧ Ok y.2.f y.2.m y.2.t ∧ y.2.n < 10 ^ 18 := by
    intro y hy
    obtain ⟨x, hx1, rfl⟩ := List.mem_map.1 hy
    have h1 := lnE_ok (hp x hx1)
    have h2 := hx x hx1
    refine ⟨h1.2.1, h2.1, ?_⟩
    show x.n.toNat < 10 ^ 18
    omega
  have ht := lnT_txt hm (fun y hy => (hl y hy).1)
  rw [fm_ok L hp, ht.2]
  refine ⟨?_, hm⟩
  have := prs_txt (L.map efo) 0 hl
  simpa using this
/-- What was read is written as that text. -/
theorem fm_prs {L : List Ev} {Y : List (Nat × Ef)} {s : List UInt8} {k : Nat} (h : prs (spl 10 s) 0 = (some Y, k)) (hm : Mts L Y) : fm L = (s, 0) := by
  obtain ⟨h1, h2, _⟩ := prs_sound h
  obtain ⟨q1, q2⟩ := lnT_txt hm (fun y hy => (h2 y hy).1)
  rw [fm_ok L q1, q2, h1]
end Go.Proofs.YthfiilhbgogoaaaGreatDoor
/-
  trace.Parse: the effects of a text.
-/
namespace Go.Proofs.YthfiilhbgogoaaaGreatDoor
open Go.RowKit Go.Lib
set_option linter.unusedVariables false

/-- What Parse answers. -/
def ParTo (r : Option (List (Nat × Ef)) × Nat) (w : World) (e : Ending) (w' : World) : Prop := Stp [] w [] w' ∧ match r.1 with
  | none => e = .returned (.tuple #[.slice none 0 0, .int .i64 (r.2 : Int), .int .i64 8])
  | some Y => ∃ a cap L, e = .returned (.tuple #[.slice a L.length cap, .int .i64 (r.2 : Int), .int .i64 0]) ∧ Er w' a L ∧ Mts L Y
/-- What has been parsed, and what is parsed of the rest. -/
def pre (D : List (Nat × Ef)) (r : Option (List (Nat × Ef)) × Nat) : Option (List (Nat × Ef)) × Nat := (r.1.map (D ++ ·), r.2)
theorem pre_nil (r : Option (List (Nat × Ef)) × Nat) : pre [] r = r := by
  obtain ⟨o, n⟩ := r
  cases o <;> rfl
theorem prs_not {s : List UInt8} (h : s ≠ []) (hc : (cutc 10 s).2.2 = false) (k : Nat) : prs (spl 10 s) k = (none, k) := by
  have h1 : (cutc 10 s).1 = s := by
    rcases cutc_index 10 s with ⟨_, h2⟩ | ⟨i, _, _, h2⟩
    · rw [h2]
    · rw [h2] at hc
      cases hc
  rw [cutc_spl, hc, h1]
  simp [prs, h]
theorem prs_bad {s : List UInt8} (hc : (cutc 10 s).2.2 = true) (hr : rdAll (cutc 10 s).1 = none) (k : Nat) : prs (spl 10 s) k = (none, k) := by
  rw [cutc_spl, hc]
  simp only [if_true]
  cases e : spl 10 (cutc 10 s).2.1 with
  | nil => exact absurd e (spl_ne 10 _)
  | cons q r => simp only [prs, hr]
theorem prs_next {s : List UInt8} {y : Nat × Ef} (hc : (cutc 10 s).2.2 = true) (hr : rdAll (cutc 10 s).1 = some y) (k : Nat) (D : List (Nat × Ef)) : pre D (prs (spl 10 s) k) = pre (D ++ [y]) (prs (spl 10 (cutc 10 s).2.1) (k + 1)) := by
  rw [cutc_spl 10 s, hc]
  simp only [if_true]
  cases e : spl 10 (cutc 10 s).2.1 with
  | nil => exact absurd e (spl_ne 10 _)
  | cons q r =>
    simp only [prs, hr, pre, Prod.mk.injEq, and_true]
    cases (prs (q :: r) (k + 1)).1 <;> simp
theorem cut_shorter {s : List UInt8} (hc : (cutc 10 s).2.2 = true) : (cutc 10 s).2.1.length < s.length := by
  rcases cutc_index 10 s with ⟨_, h2⟩ | ⟨i, h1, _, h2⟩
  · rw [h2] at hc
    cases hc
  · rw [h2]
    simp
    omega
theorem cut_pieces {s : List UInt8} {P : List UInt8 → Prop} (hc : (cutc 10 s).2.2 = true) (h : ∀ p ∈ spl 10 s, P p) : P (cutc 10 s).1 ∧ ∀ p ∈ spl 10 (cutc 10 s).2.1, P p := by
  rw [cutc_spl 10 s, hc] at h
  simp only [if_true, List.mem_cons] at h
  exact ⟨h _ (.inl rfl), fun p hp => h p (.inr hp)⟩
theorem cut_head {s : List UInt8} : (cutc 10 s).1 ∈ spl 10 s := by
  rw [cutc_spl 10 s]
  simp
theorem prs_ge : ∀ (R : List (List UInt8)) (n : Nat), n ≤ (prs R n).2
  | [], n => Nat.le_refl _
  | [p], n => by
    unfold prs
    split <;> exact Nat.le_refl _
  | p :: q :: r, n => by
    unfold prs
    split
    · exact Nat.le_refl _
    · have := prs_ge (q :: r) (n + 1)
      simp only
      omega
/-- One effect, as a row of its own. -/
theorem one_cells (W : World) (x : Ev) : ∀ j u, (evs [x])[j]? = some u → (W.alloc (.cells (ev7 x).toArray 43)).cell? ((⟨W.heap.size, 0, none⟩ : Addr).add j) = some u := fun j u hu => by
  have e : evs [x] = ev7 x := by simp [evs]
  rw [e] at hu
  rw [addr_add, cell_of_row _ W.heap.size _ _ _ _ (heap_alloc_new W _)]
  simpa using hu
theorem stp_grown {w w' : World} {v : Value} (hg : w.grownBy w' v.ownBlock) : Stp v.ownBlock.toList w [] w' :=
  ⟨hg.os, hg.tape, hg.output, hg.size, fun k hk hF => hg.block k hk (fun e => hF (by rw [← e]; simp)), fun _ h => by cases h⟩
theorem wpList_appE5 {w : World} {ops : Array Oper} {rest : List Oper} {o : Oper} {a : Act} {Q : Exit → Act → World → Prop} (hgd : o.guard = none) (s x : Operand)
    (ho : o.op = .call { callee := .builtin .append, args := #[s, x], argTypes := #[22, 22] }) (base : Nat) (v : Value) (xs : List Ev) (hs : a.eval s = v) (hown : EOwn w base v xs)
    (ad : Addr) (c n : Nat) (l : List Ev) (hn : n = l.length) (hx : a.eval x = .slice (some ad) n c) (hl : ∀ j u, (evs l)[j]? = some u → w.cell? (ad.add j) = some u) (h63 : xs.length + l.length ≤ 1000000) (hbase : base ≤ w.heap.size)
    (h : ∀ v' w', EOwn w' base v' (xs ++ l) → w.grownBy w' v.ownBlock → (v'.ownBlock = v.ownBlock ∨ v'.ownBlock = some w.heap.size) → wpList Tryz.prog ops Q rest (a.put o.dst v') w') : wpList Tryz.prog ops Q (o :: rest) a w := by
  subst hn
  refine wpList_plain hgd fun K hK => ?_
  obtain ⟨i0, hi0, hz0, hz1, hz2⟩ := info_parts eff_parts
  obtain ⟨v', w', hrun, h2, h3, _, h5⟩ := run_append_own_at (P := Tryz.prog) w base _ o.type _ i0 _ 7 56 Tryz.underlying22 hi0 hz0 hz1 hz2 rfl (by omega) v _ _ hown ad l.length c (evs l) (evs_length l) hl
    (evs_one l) (by unfold maxLen; omega) (by omega) hbase
  have h2' : EOwn w' base v' (xs ++ l) := by
    unfold EOwn
    rw [evs_app, List.length_append]
    exact h2
  unfold Oper.wp execOp
  simp only [ho, resolve, invoke, builtin, Sem.run_bind, Sem.run_pure, Result.andThen_ok, List.map_toArray, List.map_cons, List.map_nil, hs, hx, hrun]
  exact hK _ _ (h v' w' h2' h3 h5)
/-- The data of the effects read so far lie in no block of the row that holds them. -/
def Dts (w : World) (v : Value) (L : List Ev) : Prop := ∀ x ∈ L, Ed w x ∧ (x.l ≠ [] → ∀ ad, x.a = some ad → v.ownBlock ≠ some ad.block)
theorem Dts.app {w W W' : World} {v v' : Value} {L : List Ev} {x : Ev} (h : Dts w v L) (hs : Stp [] w [] W) (hx : Ed W x) (hx2 : x.l ≠ [] → ∀ ad, x.a = some ad → v.ownBlock ≠ some ad.block) (hg : W.grownBy W' v.ownBlock) (hv : v'.ownBlock = v.ownBlock ∨ v'.ownBlock = some W.heap.size) : Dts W' v' (L ++ [x]) := by
  have key : ∀ z, Ed W z → (z.l ≠ [] → ∀ ad, z.a = some ad → v.ownBlock ≠ some ad.block) → Ed W' z ∧ (z.l ≠ [] → ∀ ad, z.a = some ad → v'.ownBlock ≠ some ad.block) := by
    intro z hz hz2
    refine ⟨⟨hz.1.other (stp_grown hg) (fun hn ad e hm => hz2 hn ad e (by simpa using hm)), hz.2⟩, fun hn ad e => ?_⟩
    rcases hv with e2 | e2
    · rw [e2]
      exact hz2 hn ad e
    · rw [e2]
      intro e3
      have := hz.1.apart (Nat.le_refl _) hn ad e
      simp at e3
      omega
  intro z hz
  rcases List.mem_append.1 hz with hm | hm
  · exact key z ((h z hm).1.stays hs) (h z hm).2
  · simp at hm
    subst hm
    exact key _ hx hx2
set_option maxHeartbeats 1000000 in
set_option maxRecDepth 100000 in
theorem parse_run (s : List UInt8) (w : World) (hT : Tabs w) (hl : s.length ≤ 100000000) (hp : ∀ p ∈ spl 10 s, p.length ≤ 100000) (hk : (prs (spl 10 s) 0).2 ≤ 100000) :
    Calls Tryz.prog 9 #[.string (st s)] w (ParTo (prs (spl 10 s) 0) w) := by
  have KA := Lib.hid all_run
  have HT : Aside (Tabs w) := hT
  have HP := Lib.hid (And.intro hl hp)
  clear hT hl hp
  go_enter Tryz.func9, Tryz.ntmps9
  go_wp2_with fail
  refine (KA.out _).mono ?_
  rintro _ w1 ⟨X, rfl, h1, h2⟩
  have hsc := store_all w1 X h1.1
  have hcl : (closures X).length = 14 := by rw [closures_len, h1.1]
  have H1 : Aside (AllAt (w1.alloc (.cells (closures X).toArray 52)) X ∧ (w1.alloc (.cells (closures X).toArray 52)).heap[w1.heap.size]? = some (.cells (closures X).toArray 52 (0, 0)) ∧ Stp [] w [] (w1.alloc (.cells (closures X).toArray 52))) :=
    ⟨h1.stays (Stp.alloc [] _ _), heap_alloc_new _ _, h2.trans (Stp.alloc [] _ _)⟩
  clear h1 h2 KA
  generalize w1.alloc (.cells (closures X).toArray 52) = w2 at *
  go_wp2
  generalize w1.heap.size = ga at *
  have KE : Hid (∀ (p : List UInt8), p.length ≤ 100000 → ∀ W, Stp [] w2 [] W → Calls Tryz.prog 22 #[.pointer (some ⟨ga, 0, none⟩), .string (st p)] W (EffTo (rdAll p) W)) := Lib.hid fun p hp W hs =>
    eff_run X ga p hp W ((HT.out.stays H1.out.2.2).stays hs) (H1.out.1.stays hs) ((hs.block ga (Array.getElem?_eq_some_iff.1 H1.out.2.1).1 (by simp)).trans H1.out.2.1)
  clear hsc hcl
  have HK := Lib.hid hk
  clear hk
  go_loopg [0, 6] s.length (fun gk v0 v6 wr => ∃ (sr : List UInt8) (a : Option Addr) (cap : Nat) (L : List Ev), v0 = .string (st sr) ∧ v6 = .slice a L.length cap ∧ sr.length ≤ gk ∧
    Aside (EOwn wr w2.heap.size (.slice a L.length cap) L ∧ Dts wr (.slice a L.length cap) L ∧ (∃ D, Mts L D ∧ prs (spl 10 s) 0 = pre D (prs (spl 10 sr) L.length)) ∧ Stp [] w2 [] wr ∧ (∀ p ∈ spl 10 sr, p.length ≤ 100000) ∧ sr.length ≤ 100000000))
  case atStart => exact ⟨s, none, 0, [], rfl, rfl, Nat.le_refl _, EOwn.nil _ _, (fun x hx => by cases hx), ⟨[], Mts.nil, (pre_nil _).symm⟩, Stp.refl _ _, HP.out.2, HP.out.1⟩
  case round =>
    obtain ⟨sr, a, cap, L, rfl, rfl, hg, HS⟩ := hrel
    by_cases hne : sr = []
    · subst hne
      have hq : ((st []).toList == ([] : List UInt8)) = true := by rw [st_toList]; rfl
      have HN : Aside (∃ D, Mts L D ∧ prs (spl 10 s) 0 = (some D, L.length)) := by
        obtain ⟨D, hD, e⟩ := HS.out.2.2.1
        refine ⟨D, hD, ?_⟩
        rw [e]
        simp [spl, prs, pre]
      go_wp2
      go_ret3
      obtain ⟨D, hD, e⟩ := HN.out
      obtain ⟨a', cap', ea, hEr, _⟩ := HS.out.1.er (fun x hx => (HS.out.2.1 x hx).1)
      rw [e]
      refine ⟨H1.out.2.2.trans HS.out.2.2.2.1, a', cap', L, ?_, hEr, hD⟩
      rw [ea]
      rfl
    · have hq : ((st sr).toList == ([] : List UInt8)) = false := by rw [st_toList]; simp [hne]
      obtain ⟨hO, hd, ⟨D, hD, hpr⟩, hSt, hpc, hsl⟩ := HS.out
      obtain ⟨⟨p, r, en⟩, hcut⟩ : ∃ q, cutc 10 sr = q := ⟨_, rfl⟩
      have KC : Hid (∀ W, Calls Tryz.prog 21 #[.string (st sr), .string ⟨#[10]⟩] W (Tells (.tuple #[.string (st p), .string (st r), .bool en]) W)) := Lib.hid fun W => by
        have := cut_run sr 10 W (by omega)
        rw [hcut] at this
        exact this
      have hpl : p.length ≤ 100000 := by
        have := hpc _ cut_head
        rw [hcut] at this
        exact this
      have hLn : L.length ≤ 100000 := by
        have h1 := prs_ge (spl 10 sr) L.length
        have h2 := HK.out
        rw [hpr] at h2
        simp only [pre] at h2
        omega
      have HBad : Aside ((en = false ∨ rdAll p = none) → prs (spl 10 s) 0 = (none, L.length)) := fun hb => by
        rw [hpr]
        have e : prs (spl 10 sr) L.length = (none, L.length) := by
          cases en with
          | false => exact prs_not hne (by rw [hcut]) _
          | true => exact prs_bad (by rw [hcut]) (by rw [hcut]; exact hb.resolve_left (by decide)) _
        rw [e]
        rfl
      have HNx : Aside (en = true → ∀ y, rdAll p = some y → r.length < sr.length ∧ (∀ q ∈ spl 10 r, q.length ≤ 100000) ∧ prs (spl 10 s) 0 = pre (D ++ [y]) (prs (spl 10 r) (L.length + 1))) := fun he y hy => by
        subst he
        have e1 : (cutc 10 sr).2.2 = true := by rw [hcut]
        have k1 := cut_shorter e1
        have k2 := (cut_pieces e1 hpc).2
        have k3 := prs_next e1 (by rw [hcut]; exact hy) L.length D
        rw [hcut] at k1 k2 k3
        exact ⟨k1, k2, hpr.trans k3⟩
      have HG : Aside (EOwn wr w2.heap.size (.slice a L.length cap) L ∧ Dts wr (.slice a L.length cap) L ∧ Mts L D ∧ Stp [] w2 [] wr) := ⟨hO, hd, hD, hSt⟩
      clear HS hO hd hD hpr hSt hpc hcut
      go_wp2_with fail
      refine (KC.out _).mono ?_
      rintro _ w3 ⟨rfl, h3⟩
      have H3 : Aside (Stp [] wr [] w3) := h3
      clear h3 KC
      go_wp2_with fail
      refine (KE.out p hpl w3 (HG.out.2.2.2.trans H3.out)).mono ?_
      rintro _ w4 ⟨h4, hm⟩
      have H4 : Aside (Stp [] wr [] w4) := H3.out.trans h4
      have h3s : wr.heap.size ≤ w3.heap.size := H3.out.size
      clear h4 H3
      cases hr : rdAll p with
      | none =>
        rw [hr] at hm
        subst hm
        have HB := Lib.hid (HBad.out (.inr hr))
        clear HBad HNx hr h3s
        unfold evv
        cases en
        all_goals
          go_wp2
          go_ret3
          rw [HB.out]
          exact ⟨(H1.out.2.2.trans (HG.out.2.2.2.trans H4.out)).trans (Stp.alloc [] _ _), rfl⟩
      | some y =>
        rw [hr] at hm
        obtain ⟨d, rfl, a4, c4, rfl, hb1, hb2, hb3, hb4⟩ := hm
        have HB : Aside (Bts w4 a4 y.2.d ∧ y.2.d.length ≤ c4 ∧ (a4 = none → c4 = 0) ∧ ∀ ad, a4 = some ad → wr.heap.size ≤ ad.block) := ⟨hb1, hb2, hb3, fun ad e => Nat.le_trans h3s (hb4 ad e)⟩
        clear hb1 hb2 hb3 hb4 h3s
        unfold evv
        cases en with
        | false =>
          have HB := Lib.hid (HBad.out (.inl rfl))
          clear HBad HNx hr
          go_wp2
          go_ret3
          rw [HB.out]
          exact ⟨(H1.out.2.2.trans (HG.out.2.2.2.trans H4.out)).trans (Stp.alloc [] _ _), rfl⟩
        | true =>
          obtain ⟨n1, n2, n3⟩ := HNx.out rfl y hr
          have HN : Aside ((∀ q ∈ spl 10 r, q.length ≤ 100000) ∧ prs (spl 10 s) 0 = pre (D ++ [y]) (prs (spl 10 r) (L.length + 1))) := ⟨n2, n3⟩
          clear HBad HNx hr n2 n3
          obtain ⟨x, hx⟩ : ∃ x : Ev, x = ⟨(y.1 : Int), y.2.f, y.2.m, y.2.t, a4, c4, y.2.d, (y.2.n : Int), y.2.ok⟩ := ⟨_, rfl⟩
          have HX : Aside (Mt x y ∧ Ed w4 x ∧ (x.l ≠ [] → ∀ ad, x.a = some ad → (Value.slice a L.length cap).ownBlock ≠ some ad.block)) := by
            subst hx
            refine ⟨⟨rfl, rfl, rfl, rfl, rfl, rfl, rfl⟩, ⟨HB.out.1, HB.out.2.1, HB.out.2.2.1⟩, fun _ ad e e2 => ?_⟩
            have h1 := HB.out.2.2.2 ad e
            have h2 := (HG.out.1.lt _ e2).2
            omega
          have x0 : (y.1 : Int) = x.k := by rw [hx]
          have x1 : y.2.f = x.f := by rw [hx]
          have x2 : y.2.m = x.m := by rw [hx]
          have x3 : y.2.t = x.t := by rw [hx]
          have x4 : a4 = x.a := by rw [hx]
          have x5 : c4 = x.c := by rw [hx]
          have x6 : y.2.d = x.l := by rw [hx]
          have x7 : (y.2.n : Int) = x.n := by rw [hx]
          have x8 : y.2.ok = x.ok := by rw [hx]
          rw [x0, x1, x2, x3, x4, x5, x6, x7, x8]
          clear x0 x1 x2 x3 x4 x5 x6 x7 x8 hx HB
          go_upto_region 6 with fail
          have H5 : Aside (EAt (w4.alloc (.cells #[.int .i64 x.k, .int .u32 (x.f : Int), .int .u8 (x.m : Int), .int .u8 (x.t : Int), .slice x.a x.l.length x.c, .int .i64 x.n, .bool x.ok] 43)) w4.heap.size x.k x.f x.m x.t (.slice x.a x.l.length x.c) x.n x.ok ∧ Stp [] wr [] (w4.alloc (.cells #[.int .i64 x.k, .int .u32 (x.f : Int), .int .u8 (x.m : Int), .int .u8 (x.t : Int), .slice x.a x.l.length x.c, .int .i64 x.n, .bool x.ok] 43)) ∧ Ed (w4.alloc (.cells #[.int .i64 x.k, .int .u32 (x.f : Int), .int .u8 (x.m : Int), .int .u8 (x.t : Int), .slice x.a x.l.length x.c, .int .i64 x.n, .bool x.ok] 43)) x) :=
            ⟨heap_alloc_new _ _, H4.out.trans (Stp.alloc [] _ _), HX.out.2.1.stays (Stp.alloc [] _ _)⟩
          generalize w4.alloc (.cells #[.int .i64 x.k, .int .u32 (x.f : Int), .int .u8 (x.m : Int), .int .u8 (x.t : Int), .slice x.a x.l.length x.c, .int .i64 x.n, .bool x.ok] 43) = w5 at *
          generalize w4.heap.size = ge at *
          have c0 := H5.out.1.c0
          have c1 := H5.out.1.c1
          have c2 := H5.out.1.c2
          have c3 := H5.out.1.c3
          have c4 := H5.out.1.c4
          have c5 := H5.out.1.c5
          have c6 := H5.out.1.c6
          go_wp2_with (at_builtin
                       refine wpList_appE5 rfl (.tmp 34) (.tmp 36) rfl w2.heap.size (.slice a L.length cap) L rfl (HG.out.1.other (H5.out.2.1.trans (Stp.alloc [] _ _)) (by simp)) ⟨w5.heap.size, 0, none⟩ 1 1 [x] rfl rfl (fun j u hj => one_cells w5 x j u hj) (by simp; omega) (by have h2 := HG.out.2.2.2.size; have h3 := H5.out.2.1.size; rw [World.size_alloc]; omega) ?_
                       intro v' w' ho' hg' hv5
                       have hA : Aside (Stp [] w2 [] w' ∧ Dts w' v' (L ++ [x])) := ⟨(HG.out.2.2.2.trans (H5.out.2.1.trans (Stp.alloc [] _ _))).app hg' (fun k hk => (HG.out.1.lt k hk).1), HG.out.2.1.app (H5.out.2.1.trans (Stp.alloc [] _ _)) (H5.out.2.2.stays (Stp.alloc [] _ _)) HX.out.2.2 hg' hv5⟩
                       obtain ⟨a', cap', hv', _⟩ := ho'.er (fun z hz => (hA.out.2 z hz).1)
                       subst hv'
                       have HQ : Aside (EOwn w' w2.heap.size (.slice a' (L ++ [x]).length cap') (L ++ [x]) ∧ Dts w' (.slice a' (L ++ [x]).length cap') (L ++ [x]) ∧ Stp [] w2 [] w') := ⟨ho', hA.out.2, hA.out.1⟩
                       clear ho' hg' hv5 hA)
          go_roundg r.length
          case measure => omega
          case rel =>
            obtain ⟨q1, q2, q3⟩ := HQ.out
            exact ⟨r, a', cap', L ++ [x], rfl, by rw [List.length_append]; rfl, Nat.le_refl _, q1, q2, ⟨D ++ [y], HG.out.2.2.1.snoc HX.out.1, by rw [List.length_append]; exact HN.out.2⟩, q3, HN.out.1, by omega⟩
end Go.Proofs.YthfiilhbgogoaaaGreatDoor
/-
  The document: Line, of any effect.
-/
namespace Go.Proofs.YthfiilhbgogoaaaGreatDoor
open Go.RowKit Go.Lib
set_option linter.unusedVariables false

set_option maxHeartbeats 1000000 in
set_option maxRecDepth 100000 in
theorem rline_out (k : Int) (f m t : Nat) (a : Option Addr) (c : Nat) (l : List UInt8) (n : Int) (ok : Bool) (w : World) (h : k < 0 ∨ 7 ≤ k) :
    Calls Tryz.prog 20 #[.agg #[.int .i64 k, .int .u32 (f : Int), .int .u8 (m : Int), .int .u8 (t : Int), .slice a l.length c, .int .i64 n, .bool ok]] w (Tells (.tuple #[.string (st []), .int .i64 9]) w) := by
  by_cases h0 : k < 0
  · clear h
    go_enter Tryz.func20, Tryz.ntmps20
    go_wp2
    go_ret2
    exact ⟨rfl, Stp.alloc _ _ _⟩
  · have h1 : (6 : Int) < k := by omega
    have h2 : decide (k < 0) = false := decide_eq_false h0
    clear h h0
    go_enter Tryz.func20, Tryz.ntmps20
    go_wp2
    go_ret2
    exact ⟨rfl, Stp.alloc _ _ _⟩
theorem rline_run (x : Ev) (h1 : Ok x.f x.m x.t) (h2 : x.n ≤ 9223372036854775807) (h3 : x.l.length ≤ 100000) (w : World) (hb : Bts w x.a x.l) :
    Calls Tryz.prog 20 #[.agg #[.int .i64 x.k, .int .u32 (x.f : Int), .int .u8 (x.m : Int), .int .u8 (x.t : Int), .slice x.a x.l.length x.c, .int .i64 x.n, .bool x.ok]] w (Tells (.tuple #[.string (st (lnE x).1), .int .i64 (lnE x).2]) w) := by
  obtain ⟨k, f, m, t, a, c, l, n, ok⟩ := x
  simp only at h1 h2 h3 hb ⊢
  by_cases hk : k < 0 ∨ 7 ≤ k
  · have e : lnE ⟨k, f, m, t, a, c, l, n, ok⟩ = ([], 9) := by
      unfold lnE
      rw [if_pos hk]
    rw [e]
    exact rline_out k f m t a c l n ok w hk
  · have hc : k = 0 ∨ k = 1 ∨ k = 2 ∨ k = 3 ∨ k = 4 ∨ k = 5 ∨ k = 6 := by omega
    clear hk
    rcases hc with rfl | rfl | rfl | rfl | rfl | rfl | rfl
    · rw [lnE_0]
      by_cases h : n < 0 ∨ bare (offs [.ok, .attrs] ⟨0, f, m, t, a, c, l, n, ok⟩) = false
      · rw [if_pos h]
        exact rline_bad0 f m t a c l n ok w h
      · rw [if_neg h]
        simp only [not_or, Bool.not_eq_false] at h
        obtain ⟨hn, hbr⟩ := h
        simp only [bare, offs, off, decide_eq_true_eq] at hbr
        obtain ⟨_, _, _, e1, e2, _⟩ := hbr
        subst e1 e2
        exact rline_ok0 f m t a c ok h1 w
    · rw [lnE_1]
      by_cases h : n < 0 ∨ bare (offs [.ok, .attrs] ⟨1, f, m, t, a, c, l, n, ok⟩) = false
      · rw [if_pos h]
        exact rline_bad1 f m t a c l n ok w h
      · rw [if_neg h]
        simp only [not_or, Bool.not_eq_false] at h
        obtain ⟨hn, hbr⟩ := h
        simp only [bare, offs, off, decide_eq_true_eq] at hbr
        obtain ⟨_, _, _, e1, e2, _⟩ := hbr
        subst e1 e2
        exact rline_ok1 f m t a c ok h1 w
    · rw [lnE_2]
      by_cases h : n < 0 ∨ bare (offs [.ok, .data, .num] ⟨2, f, m, t, a, c, l, n, ok⟩) = false
      · rw [if_pos h]
        exact rline_bad2 f m t a c l n ok w h
      · rw [if_neg h]
        simp only [not_or, Bool.not_eq_false] at h
        obtain ⟨hn, hbr⟩ := h
        simp only [bare, offs, off, decide_eq_true_eq] at hbr
        obtain ⟨e1, e2, e3, _, _, _⟩ := hbr
        subst e1 e2 e3
        obtain ⟨n, rfl⟩ : ∃ q : Nat, n = (q : Int) := ⟨n.toNat, by omega⟩
        exact rline_ok2 a c l n ok h3 (by omega) w hb
    · rw [lnE_3]
      by_cases h : n < 0 ∨ bare (offs [.ok, .num] ⟨3, f, m, t, a, c, l, n, ok⟩) = false
      · rw [if_pos h]
        exact rline_bad3 f m t a c l n ok w h
      · rw [if_neg h]
        simp only [not_or, Bool.not_eq_false] at h
        obtain ⟨hn, hbr⟩ := h
        simp only [bare, offs, off, decide_eq_true_eq] at hbr
        obtain ⟨e1, e2, e3, e4, _, _⟩ := hbr
        subst e1 e2 e3 e4
        obtain ⟨n, rfl⟩ : ∃ q : Nat, n = (q : Int) := ⟨n.toNat, by omega⟩
        exact rline_ok3 a c n ok (by omega) w
    · rw [lnE_4]
      by_cases h : n < 0 ∨ bare (offs [.num] ⟨4, f, m, t, a, c, l, n, ok⟩) = false
      · rw [if_pos h]
        exact rline_bad4 f m t a c l n ok w h
      · rw [if_neg h]
        simp only [not_or, Bool.not_eq_false] at h
        obtain ⟨hn, hbr⟩ := h
        simp only [bare, offs, off, decide_eq_true_eq] at hbr
        obtain ⟨e1, e2, e3, e4, _, e6⟩ := hbr
        subst e1 e2 e3 e4 e6
        obtain ⟨n, rfl⟩ : ∃ q : Nat, n = (q : Int) := ⟨n.toNat, by omega⟩
        exact rline_ok4 a c n (by omega) w
    · rw [lnE_5]
      by_cases h : n < 0 ∨ bare (offs [] ⟨5, f, m, t, a, c, l, n, ok⟩) = false
      · rw [if_pos h]
        exact rline_bad5 f m t a c l n ok w h
      · rw [if_neg h]
        simp only [not_or, Bool.not_eq_false] at h
        obtain ⟨hn, hbr⟩ := h
        have hbr := of_decide_eq_true (show decide (f = 0 ∧ m = 0 ∧ t = 0 ∧ l = [] ∧ n = 0 ∧ ok = false) = true from hbr)
        obtain ⟨e1, e2, e3, e4, e5, e6⟩ := hbr
        subst e1 e2 e3 e4 e5 e6
        exact rline_ok5 a c w
    · rw [lnE_6]
      by_cases h : n < 0 ∨ bare (offs [] ⟨6, f, m, t, a, c, l, n, ok⟩) = false
      · rw [if_pos h]
        exact rline_bad6 f m t a c l n ok w h
      · rw [if_neg h]
        simp only [not_or, Bool.not_eq_false] at h
        obtain ⟨hn, hbr⟩ := h
        have hbr := of_decide_eq_true (show decide (f = 0 ∧ m = 0 ∧ t = 0 ∧ l = [] ∧ n = 0 ∧ ok = false) = true from hbr)
        obtain ⟨e1, e2, e3, e4, e5, e6⟩ := hbr
        subst e1 e2 e3 e4 e5 e6
        exact rline_ok6 a c w
end Go.Proofs.YthfiilhbgogoaaaGreatDoor
/-
  The document: Format.
-/
namespace Go.Proofs.YthfiilhbgogoaaaGreatDoor
open Go.RowKit Go.Lib
set_option linter.unusedVariables false

set_option maxHeartbeats 2000000 in
set_option maxRecDepth 100000 in
theorem rformat_run (a : Option Addr) (cap : Nat) (L : List Ev) (w : World) (hE : Er w a L) (hl : L.length ≤ 10000) (hx : ∀ x ∈ L, Ok x.f x.m x.t ∧ x.n ≤ 9223372036854775807 ∧ x.l.length ≤ 100000 ∧ (lnE x).1.length ≤ 9000) :
    Calls Tryz.prog 8 #[.slice a L.length cap] w (Tells (.tuple #[.string (st (fm L).1), .int .i64 (fm L).2]) w) := by
  have HT : Aside (Er w a L ∧ ∀ x ∈ L, Ok x.f x.m x.t ∧ x.n ≤ 9223372036854775807 ∧ x.l.length ≤ 100000 ∧ (lnE x).1.length ≤ 9000) := ⟨hE, hx⟩
  clear hE hx
  go_enter Tryz.func8, Tryz.ntmps8
  go_wp2
  go_loopg [4, 5] L.length (fun gk v4 v5 wr => ∃ i : Nat, v4 = .string (st (lnT (L.take i))) ∧ v5 = .int .i64 (i : Int) ∧ i ≤ L.length ∧ L.length - i ≤ gk ∧ Aside (Stp [] w [] wr ∧ (∀ y ∈ L.take i, (lnE y).2 = 0) ∧ (lnT (L.take i)).length ≤ i * 9001))
  case atStart => exact ⟨0, rfl, rfl, by omega, by omega, Stp.refl _ _, (fun y hy => by simp at hy), by simp [lnT]⟩
  case round =>
    obtain ⟨i, rfl, rfl, hi, hg, HS⟩ := hrel
    by_cases hlt : i < L.length
    · have hltz : (i : Int) < (L.length : Int) := by omega
      obtain ⟨x, hx⟩ : ∃ x, L[i]? = some x := ⟨L[i], List.getElem?_eq_getElem hlt⟩
      have hm := List.mem_of_getElem? hx
      obtain ⟨b, off, ha, hc⟩ := HT.out.1.2 (fun e => by simp [e] at hlt)
      subst ha
      obtain ⟨e0, e1, e2, e3, e4, e5, e6⟩ := (hc i x hx).stays HS.out.1
      have K1 : Hid (Calls Tryz.prog 20 #[.agg #[.int .i64 x.k, .int .u32 (x.f : Int), .int .u8 (x.m : Int), .int .u8 (x.t : Int), .slice x.a x.l.length x.c, .int .i64 x.n, .bool x.ok]] wr (Tells (.tuple #[.string (st (lnE x).1), .int .i64 (lnE x).2]) wr)) := Lib.hid (rline_run x (HT.out.2 x hm).1 (HT.out.2 x hm).2.1 (HT.out.2 x hm).2.2.1 wr ((HT.out.1.1 x hm).1.stays HS.out.1))
      by_cases he : (lnE x).2 = 0
      · have HN : Aside (lnT (L.take (i + 1)) = lnT (L.take i) ++ (lnE x).1 ++ [10] ∧ (∀ y ∈ L.take (i + 1), (lnE y).2 = 0) ∧ (lnE x).1.length ≤ 9000 ∧ i * 9001 ≤ 90010000) := by
          refine ⟨lnT_snoc L i x hx, fun y hy => ?_, (HT.out.2 x hm).2.2.2, (by have : i * 9001 ≤ 10000 * 9001 := Nat.mul_le_mul_right 9001 (by omega : i ≤ 10000); omega)⟩
          obtain ⟨h1, h2⟩ := List.getElem?_eq_some_iff.1 hx
          rw [List.take_succ_eq_append_getElem h1, h2] at hy
          rcases List.mem_append.1 hy with h | h
          · exact HS.out.2.1 y h
          · simp at h
            subst h
            exact he
        have HL2 : Aside ((lnT (L.take (i + 1))).length ≤ (i + 1) * 9001) := by
          have h1 := HS.out.2.2
          have h2 := HN.out.2.2.1
          show (lnT (L.take (i + 1))).length ≤ (i + 1) * 9001
          rw [HN.out.1, List.length_append, List.length_append, Nat.add_mul]
          simp
          omega
        rw [he] at K1
        clear hc hx he hm
        generalize (lnE x).1 = z at *
        obtain ⟨S0, hS0⟩ : ∃ S, S = st (lnT (L.take i)) := ⟨_, rfl⟩
        obtain ⟨Sz, hSz⟩ : ∃ S, S = st z := ⟨_, rfl⟩
        obtain ⟨S2, q2⟩ : ∃ S, S0 ++ Sz = S := ⟨_, rfl⟩
        obtain ⟨S3, q3⟩ : ∃ S, S2 ++ (⟨#[10]⟩ : ByteArray) = S := ⟨_, rfl⟩
        have HV : Aside (S3 = st (lnT (L.take (i + 1)))) := by
          show S3 = _
          rw [← q3, ← q2, hS0, hSz, st_append, HN.out.1]
          exact st_append _ [10]
        have hz0 : S0.size ≤ 100000000 := by rw [hS0, st_size]; have h1 := HS.out.2.2; have h2 := HN.out.2.2.2; omega
        have hz1 : Sz.size ≤ 9000 := by rw [hSz, st_size]; exact HN.out.2.2.1
        have hz2 : S2.size = S0.size + Sz.size := by rw [← q2, ByteArray.size_append]
        have r0 : ¬ 9223372036854775807 < S0.size + Sz.size := by omega
        have r1 : ¬ 9223372036854775807 < S2.size + 1 := by omega
        have r2 : ¬ 9223372036854775807 < S0.size + Sz.size + 1 := by omega
        rw [← hS0]
        rw [← hSz] at K1
        clear hS0 hSz hz2 hz0 hz1
        go_wp2_with fail
        refine K1.out.mono ?_
        rintro _ w5 ⟨rfl, h5⟩
        have H5 : Aside (Stp [] w [] w5) := HS.out.1.trans h5
        clear h5 e0 e1 e2 e3 e4 e5 e6 K1
        go_wp2
        go_roundg (L.length - (i + 1))
        case measure => omega
        case rel => exact ⟨i + 1, by rw [HV.out], by go_num, by omega, by omega, H5.out, HN.out.2.1, HL2.out⟩
      · have HN : Aside (fm L = ([], (lnE x).2)) := fm_err L i x hx HS.out.2.1 he
        have heb : ((lnE x).2 == 0) = false := beq_eq_false_iff_ne.2 he
        clear hc hx hm
        generalize (lnE x).1 = z at *
        generalize (lnE x).2 = ez at *
        go_wp2_with fail
        refine K1.out.mono ?_
        rintro _ w5 ⟨rfl, h5⟩
        have H5 : Aside (Stp [] w [] w5) := HS.out.1.trans h5
        clear h5 e0 e1 e2 e3 e4 e5 e6 K1
        go_wp2
        go_ret2
        exact ⟨by rw [HN.out]; rfl, H5.out⟩
    · have hltz : ¬ (i : Int) < (L.length : Int) := by omega
      obtain rfl : i = L.length := by omega
      have HN : Aside (fm L = (lnT L, 0)) := by
        have h1 := HS.out
        rw [List.take_length] at h1
        exact fm_ok L h1.2.1
      rw [List.take_length]
      go_wp2
      go_ret2
      exact ⟨by rw [HN.out]; rfl, HS.out.1⟩
end Go.Proofs.YthfiilhbgogoaaaGreatDoor
/-
  The document's Read of a line: what the program reads.
-/
namespace Go.Proofs.YthfiilhbgogoaaaGreatDoor
open Go.RowKit Go.Lib
set_option linter.unusedVariables false

theorem rread7_run (s : List UInt8) (hs : s.length ≤ 2000) (w : World) : Calls Tryz.prog 24 #[.string (st s)] w (EffTo (rdAll s) w) := by
  rw [rdAll_rf]
  by_cases h1 : s = [101, 110, 100]
  · exact rd_end s hs w h1
  by_cases h2 : s = [104, 105, 115, 116, 111, 114, 121]
  · exact rd_his s hs w h2
  by_cases h3 : (spl 32 s).length < 2
  · exact rd_few s hs w h1 h2 h3
  obtain ⟨a, b, R, hL⟩ : ∃ a b R, spl 32 s = a :: b :: R := by
    generalize spl 32 s = L at *
    rcases L with _ | ⟨a, _ | ⟨b, R⟩⟩
    · simp at h3
    · simp at h3
    · exact ⟨a, b, R, rfl⟩
  by_cases hsig : a = [115, 105, 103, 110, 97, 108]
  · by_cases hR : R = []
    · cases hv : rnum 10 18 b with
      | none => exact rd_sig2n s hs w h1 h2 a b R hL hsig hR hv
      | some v => exact rd_sig2 s hs w h1 h2 a b R hL hsig hR v hv
    · exact rd_sigx s hs w h1 h2 a b R hL hsig hR
  by_cases hok : b = [111, 107]
  · by_cases hgot : a = [103, 111, 116]
    · by_cases hR : R.length = 3
      · obtain ⟨c, d, e, hR⟩ := three hR
        by_cases hu : text (rdf (c ++ 32 :: (d ++ 32 :: e))) (rdm (c ++ 32 :: (d ++ 32 :: e))) (rdt (c ++ 32 :: (d ++ 32 :: e))) = c ++ 32 :: (d ++ 32 :: e)
        · exact rd_atgotyt s hs w h1 h2 a b R hL hgot hok c d e hR _ rfl hu _ _ _ rfl rfl rfl
        · exact rd_atgotnt s hs w h1 h2 a b R hL hgot hok c d e hR _ rfl hu
      · exact rd_gotxt s hs w h1 h2 a b R hL hgot hok hR
    by_cases hwas : a = [119, 97, 115]
    · by_cases hR : R.length = 3
      · obtain ⟨c, d, e, hR⟩ := three hR
        by_cases hu : text (rdf (c ++ 32 :: (d ++ 32 :: e))) (rdm (c ++ 32 :: (d ++ 32 :: e))) (rdt (c ++ 32 :: (d ++ 32 :: e))) = c ++ 32 :: (d ++ 32 :: e)
        · exact rd_atwasyt s hs w h1 h2 a b R hL hwas hok c d e hR _ rfl hu _ _ _ rfl rfl rfl
        · exact rd_atwasnt s hs w h1 h2 a b R hL hwas hok c d e hR _ rfl hu
      · exact rd_wasxt s hs w h1 h2 a b R hL hwas hok hR
    by_cases hwr : a = [119, 114, 111, 116, 101]
    · by_cases hR : R.length = 2
      · obtain ⟨c, d, hR⟩ : ∃ c d, R = [c, d] := by
          rcases R with _ | ⟨c, _ | ⟨d, _ | ⟨e, r⟩⟩⟩
          · simp at hR
          · simp at hR
          · exact ⟨c, d, rfl⟩
          · simp at hR
        cases hu : unhex c with
        | none => exact rd_wrote2nt s hs w h1 h2 a b R hL hwr hok c d hR hu
        | some D => cases hv : rnum 10 18 d with
          | none => exact rd_wrote2mt s hs w h1 h2 a b R hL hwr hok c d hR D hu hv
          | some v => exact rd_wrote2yt s hs w h1 h2 a b R hL hwr hok c d hR D hu v hv
      · exact rd_wrotext s hs w h1 h2 a b R hL hwr hok hR
    by_cases hrd : a = [114, 101, 97, 100]
    · by_cases hR : R.length = 1
      · obtain ⟨c, hR⟩ := List.length_eq_one_iff.1 hR
        cases hv : rnum 10 18 c with
        | none => exact rd_read3nt s hs w h1 h2 a b R hL hrd hok c hR hv
        | some v => exact rd_read3t s hs w h1 h2 a b R hL hrd hok c hR v hv
      · exact rd_readxt s hs w h1 h2 a b R hL hrd hok hR
    · exact rd_deft s hs w h1 h2 a b R hL hgot hwas hwr hrd hsig hok
  by_cases hfa : b = [102, 97, 105, 108]
  · by_cases hgot : a = [103, 111, 116]
    · by_cases hR : R.length = 3
      · obtain ⟨c, d, e, hR⟩ := three hR
        by_cases hu : text (rdf (c ++ 32 :: (d ++ 32 :: e))) (rdm (c ++ 32 :: (d ++ 32 :: e))) (rdt (c ++ 32 :: (d ++ 32 :: e))) = c ++ 32 :: (d ++ 32 :: e)
        · exact rd_atgotyf s hs w h1 h2 a b R hL hgot hfa c d e hR _ rfl hu _ _ _ rfl rfl rfl
        · exact rd_atgotnf s hs w h1 h2 a b R hL hgot hfa c d e hR _ rfl hu
      · exact rd_gotxf s hs w h1 h2 a b R hL hgot hfa hR
    by_cases hwas : a = [119, 97, 115]
    · by_cases hR : R.length = 3
      · obtain ⟨c, d, e, hR⟩ := three hR
        by_cases hu : text (rdf (c ++ 32 :: (d ++ 32 :: e))) (rdm (c ++ 32 :: (d ++ 32 :: e))) (rdt (c ++ 32 :: (d ++ 32 :: e))) = c ++ 32 :: (d ++ 32 :: e)
        · exact rd_atwasyf s hs w h1 h2 a b R hL hwas hfa c d e hR _ rfl hu _ _ _ rfl rfl rfl
        · exact rd_atwasnf s hs w h1 h2 a b R hL hwas hfa c d e hR _ rfl hu
      · exact rd_wasxf s hs w h1 h2 a b R hL hwas hfa hR
    by_cases hwr : a = [119, 114, 111, 116, 101]
    · by_cases hR : R.length = 2
      · obtain ⟨c, d, hR⟩ : ∃ c d, R = [c, d] := by
          rcases R with _ | ⟨c, _ | ⟨d, _ | ⟨e, r⟩⟩⟩
          · simp at hR
          · simp at hR
          · exact ⟨c, d, rfl⟩
          · simp at hR
        cases hu : unhex c with
        | none => exact rd_wrote2nf s hs w h1 h2 a b R hL hwr hfa c d hR hu
        | some D => cases hv : rnum 10 18 d with
          | none => exact rd_wrote2mf s hs w h1 h2 a b R hL hwr hfa c d hR D hu hv
          | some v => exact rd_wrote2yf s hs w h1 h2 a b R hL hwr hfa c d hR D hu v hv
      · exact rd_wrotexf s hs w h1 h2 a b R hL hwr hfa hR
    by_cases hrd : a = [114, 101, 97, 100]
    · by_cases hR : R.length = 1
      · obtain ⟨c, hR⟩ := List.length_eq_one_iff.1 hR
        cases hv : rnum 10 18 c with
        | none => exact rd_read3nf s hs w h1 h2 a b R hL hrd hfa c hR hv
        | some v => exact rd_read3f s hs w h1 h2 a b R hL hrd hfa c hR v hv
      · exact rd_readxf s hs w h1 h2 a b R hL hrd hfa hR
    · exact rd_deff s hs w h1 h2 a b R hL hgot hwas hwr hrd hsig hfa
  · exact rd_no s hs w h1 h2 a b R hL hsig hok hfa
end Go.Proofs.YthfiilhbgogoaaaGreatDoor
/-
  The document: Parse.
-/
namespace Go.Proofs.YthfiilhbgogoaaaGreatDoor
open Go.RowKit Go.Lib
set_option linter.unusedVariables false

theorem drop_two {P : List (List UInt8)} {i : Nat} (h : i + 1 < P.length) : ∃ q r, P.drop i = P[i]'(by omega) :: q :: r ∧ P.drop (i + 1) = q :: r := by
  have h1 := List.drop_eq_getElem_cons (show i < P.length by omega)
  have h2 := List.drop_eq_getElem_cons h
  exact ⟨_, _, by rw [h1, h2], h2⟩
theorem prs_bad2 {p q : List UInt8} {r : List (List UInt8)} (hr : rdAll p = none) (k : Nat) : prs (p :: q :: r) k = (none, k) := by simp only [prs, hr]
theorem prs_next2 {p q : List UInt8} {r : List (List UInt8)} {y : Nat × Ef} (hr : rdAll p = some y) (k : Nat) (D : List (Nat × Ef)) : pre D (prs (p :: q :: r) k) = pre (D ++ [y]) (prs (q :: r) (k + 1)) := by
  simp only [prs, hr, pre, Prod.mk.injEq, and_true]
  cases (prs (q :: r) (k + 1)).1 <;> simp
set_option maxHeartbeats 2000000 in
set_option maxRecDepth 100000 in
theorem rparse_run (s : List UInt8) (w : World) (hl : s.length ≤ 2000) :
    Calls Tryz.prog 10 #[.string (st s)] w (ParTo (prs (spl 10 s) 0) w) := by
  have K1 : Hid (∀ W, Calls Tryz.prog 23 #[.string (st s), .int .u8 10] W fun e w' => ∃ v, e = .returned v ∧ SOwn w' W.heap.size v (spl 10 s) ∧ Stp [] W [] w') := Lib.hid fun W => rcut_run s 10 (by omega) W
  have HM : Aside (∀ p ∈ spl 10 s, p.length ≤ 2000) := fun p hp => by have := spl_mem_len 10 s p hp; omega
  have hne := spl_ne 10 s
  have hsz := spl_len 10 s
  have hPl : (spl 10 s).length ≤ 2001 := by omega
  have hP0 : 0 < (spl 10 s).length := List.length_pos_iff.2 hne
  go_enter Tryz.func10, Tryz.ntmps10
  go_wp2_with fail
  refine (K1.out _).mono ?_
  rintro _ w2 ⟨v, rfl, o1, h1⟩
  have HA : Aside (Stp [] w [] w2) := h1
  obtain ⟨a4, cap4, hv4, hn4, hc4, hm4, hr4⟩ := o1.form
  obtain ⟨ad, rfl⟩ : ∃ ad, a4 = some ad := by
    rcases a4 with _ | ad
    · exact absurd (hn4 rfl).2 hne
    · exact ⟨ad, rfl⟩
  obtain ⟨g4, rfl, _, _, hcl⟩ := hr4 ad rfl
  subst hv4
  clear K1 h1 hr4 hm4 hc4 hn4 o1 hne hsz
  generalize hP : spl 10 s = P at *
  have HC : Aside (∀ (j : Nat) p, P[j]? = some p → w2.cell? ⟨g4, j, none⟩ = some (.string (st p))) := fun j p hj => hcl j p hj
  clear hcl hP
  go_wp2
  go_loopg [6, 7] P.length (fun gk v6 v7 wr => ∃ (i : Nat) (a : Option Addr) (cap : Nat) (L : List Ev), v6 = .slice a L.length cap ∧ v7 = .int .i64 (i : Int) ∧ i < P.length ∧ P.length - i ≤ gk ∧
    Aside (L.length = i ∧ EOwn wr w2.heap.size (.slice a L.length cap) L ∧ Dts wr (.slice a L.length cap) L ∧ (∃ D, Mts L D ∧ prs P 0 = pre D (prs (P.drop i) i)) ∧ Stp [] w2 [] wr))
  case atStart => exact ⟨0, none, 0, [], rfl, rfl, hP0, by omega, rfl, EOwn.nil _ _, (fun x hx => by cases hx), ⟨[], Mts.nil, (pre_nil _).symm⟩, Stp.refl _ _⟩
  case round =>
    obtain ⟨i, a, cap, L, rfl, rfl, hi, hg, HS⟩ := hrel
    by_cases hlt : i + 1 < P.length
    · have hltz : (i : Int) < (P.length : Int) - 1 := by omega
      obtain ⟨p, hp⟩ : ∃ p, P[i]? = some p := ⟨P[i], List.getElem?_eq_getElem hi⟩
      obtain ⟨hLi, hO, hd, ⟨D, hD, hpr⟩, hSt⟩ := HS.out
      have HLi : Aside (L.length = i) := hLi
      clear hLi
      obtain ⟨q, r, hd1, hd2⟩ := drop_two hlt
      have hpe : P[i]'hi = p := by rw [List.getElem?_eq_getElem hi] at hp; exact Option.some.inj hp
      rw [hpe] at hd1
      have HBad : Aside (rdAll p = none → prs P 0 = (none, i)) := fun hb => by
        rw [hpr, hd1, prs_bad2 hb]
        rfl
      have HNx : Aside (∀ y, rdAll p = some y → prs P 0 = pre (D ++ [y]) (prs (P.drop (i + 1)) (i + 1))) := fun y hy => by
        rw [hpr, hd1, hd2]
        exact prs_next2 hy i D
      have c0 := hSt.keeps rfl (HC.out i p hp)
      have KR : Hid (Calls Tryz.prog 24 #[.string (st p)] wr (EffTo (rdAll p) wr)) := Lib.hid (rread7_run p (HM.out p (List.mem_of_getElem? hp)) wr)
      have HG : Aside (EOwn wr w2.heap.size (.slice a L.length cap) L ∧ Dts wr (.slice a L.length cap) L ∧ Mts L D ∧ Stp [] w2 [] wr) := ⟨hO, hd, hD, hSt⟩
      clear HS hO hd hD hpr hSt hd1 hd2 hpe hp
      go_wp2_with fail
      refine KR.out.mono ?_
      rintro _ w4 ⟨h4, hm⟩
      have H4 : Aside (Stp [] wr [] w4) := h4
      clear h4 KR c0
      cases hr : rdAll p with
      | none =>
        rw [hr] at hm
        subst hm
        have HB := Lib.hid (HBad.out hr)
        clear HBad HNx hr
        unfold evv
        go_wp2
        go_ret3
        rw [HB.out]
        exact ⟨(HA.out.trans (HG.out.2.2.2.trans H4.out)).trans (Stp.alloc [] _ _), rfl⟩
      | some y =>
        rw [hr] at hm
        obtain ⟨d, rfl, a4, c4, rfl, hb1, hb2, hb3, hb4⟩ := hm
        have HB : Aside (Bts w4 a4 y.2.d ∧ y.2.d.length ≤ c4 ∧ (a4 = none → c4 = 0) ∧ ∀ ad, a4 = some ad → wr.heap.size ≤ ad.block) := ⟨hb1, hb2, hb3, hb4⟩
        have HN := Lib.hid (HNx.out y hr)
        clear hb1 hb2 hb3 hb4 HBad HNx hr
        unfold evv
        obtain ⟨x, hx⟩ : ∃ x : Ev, x = ⟨(y.1 : Int), y.2.f, y.2.m, y.2.t, a4, c4, y.2.d, (y.2.n : Int), y.2.ok⟩ := ⟨_, rfl⟩
        have HX : Aside (Mt x y ∧ Ed w4 x ∧ (x.l ≠ [] → ∀ ad, x.a = some ad → (Value.slice a L.length cap).ownBlock ≠ some ad.block)) := by
          subst hx
          refine ⟨⟨rfl, rfl, rfl, rfl, rfl, rfl, rfl⟩, ⟨HB.out.1, HB.out.2.1, HB.out.2.2.1⟩, fun _ ad e e2 => ?_⟩
          have h1 := HB.out.2.2.2 ad e
          have h2 := (HG.out.1.lt _ e2).2
          omega
        have x0 : (y.1 : Int) = x.k := by rw [hx]
        have x1 : y.2.f = x.f := by rw [hx]
        have x2 : y.2.m = x.m := by rw [hx]
        have x3 : y.2.t = x.t := by rw [hx]
        have x4 : a4 = x.a := by rw [hx]
        have x5 : c4 = x.c := by rw [hx]
        have x6 : y.2.d = x.l := by rw [hx]
        have x7 : (y.2.n : Int) = x.n := by rw [hx]
        have x8 : y.2.ok = x.ok := by rw [hx]
        rw [x0, x1, x2, x3, x4, x5, x6, x7, x8]
        clear x0 x1 x2 x3 x4 x5 x6 x7 x8 hx HB
        go_upto_region 7 with fail
        have H5 : Aside (EAt (w4.alloc (.cells #[.int .i64 x.k, .int .u32 (x.f : Int), .int .u8 (x.m : Int), .int .u8 (x.t : Int), .slice x.a x.l.length x.c, .int .i64 x.n, .bool x.ok] 43)) w4.heap.size x.k x.f x.m x.t (.slice x.a x.l.length x.c) x.n x.ok ∧ Stp [] wr [] (w4.alloc (.cells #[.int .i64 x.k, .int .u32 (x.f : Int), .int .u8 (x.m : Int), .int .u8 (x.t : Int), .slice x.a x.l.length x.c, .int .i64 x.n, .bool x.ok] 43)) ∧ Ed (w4.alloc (.cells #[.int .i64 x.k, .int .u32 (x.f : Int), .int .u8 (x.m : Int), .int .u8 (x.t : Int), .slice x.a x.l.length x.c, .int .i64 x.n, .bool x.ok] 43)) x) :=
          ⟨heap_alloc_new _ _, H4.out.trans (Stp.alloc [] _ _), HX.out.2.1.stays (Stp.alloc [] _ _)⟩
        generalize w4.alloc (.cells #[.int .i64 x.k, .int .u32 (x.f : Int), .int .u8 (x.m : Int), .int .u8 (x.t : Int), .slice x.a x.l.length x.c, .int .i64 x.n, .bool x.ok] 43) = w5 at *
        generalize w4.heap.size = ge at *
        have c0 := H5.out.1.c0
        have c1 := H5.out.1.c1
        have c2 := H5.out.1.c2
        have c3 := H5.out.1.c3
        have c4 := H5.out.1.c4
        have c5 := H5.out.1.c5
        have c6 := H5.out.1.c6
        go_wp2_with (at_builtin
                     refine wpList_appE5 rfl (.tmp 30) (.tmp 32) rfl w2.heap.size (.slice a L.length cap) L rfl (HG.out.1.other (H5.out.2.1.trans (Stp.alloc [] _ _)) (by simp)) ⟨w5.heap.size, 0, none⟩ 1 1 [x] rfl rfl (fun j u hj => one_cells w5 x j u hj) (by have h0 := HLi.out; simp; omega) (by have h2 := HG.out.2.2.2.size; have h3 := H5.out.2.1.size; rw [World.size_alloc]; omega) ?_
                     intro v' w' ho' hg' hv5
                     have hA : Aside (Stp [] w2 [] w' ∧ Dts w' v' (L ++ [x])) := ⟨(HG.out.2.2.2.trans (H5.out.2.1.trans (Stp.alloc [] _ _))).app hg' (fun k hk => (HG.out.1.lt k hk).1), HG.out.2.1.app (H5.out.2.1.trans (Stp.alloc [] _ _)) (H5.out.2.2.stays (Stp.alloc [] _ _)) HX.out.2.2 hg' hv5⟩
                     obtain ⟨a', cap', hv', _⟩ := ho'.er (fun z hz => (hA.out.2 z hz).1)
                     subst hv'
                     have HQ : Aside (EOwn w' w2.heap.size (.slice a' (L ++ [x]).length cap') (L ++ [x]) ∧ Dts w' (.slice a' (L ++ [x]).length cap') (L ++ [x]) ∧ Stp [] w2 [] w') := ⟨ho', hA.out.2, hA.out.1⟩
                     clear ho' hg' hv5 hA)
        go_roundg (P.length - (i + 1))
        case measure => omega
        case rel =>
          obtain ⟨q1, q2, q3⟩ := HQ.out
          exact ⟨i + 1, a', cap', L ++ [x], by rw [List.length_append]; rfl, by go_num, hlt, by omega, by rw [List.length_append, HLi.out]; rfl, q1, q2, ⟨D ++ [y], HG.out.2.2.1.snoc HX.out.1, HN.out⟩, q3⟩
    · have hltz : ¬ (i : Int) < (P.length : Int) - 1 := by omega
      have hPi : P.length = i + 1 := by omega
      obtain ⟨p, hp⟩ : ∃ p, P[i]? = some p := ⟨P[i], List.getElem?_eq_getElem hi⟩
      obtain ⟨hLi, hO, hd, ⟨D, hD, hpr⟩, hSt⟩ := HS.out
      have HLi : Aside (L.length = i) := hLi
      clear hLi
      have hd1 : P.drop i = [p] := by
        have hpe : P[i]'hi = p := by rw [List.getElem?_eq_getElem hi] at hp; exact Option.some.inj hp
        rw [List.drop_eq_getElem_cons hi, hpe, List.drop_eq_nil_of_le (by omega)]
      rw [hd1] at hpr
      have c0 := hSt.keeps rfl (HC.out i p hp)
      have hix : ((P.length : Int) - 1) = (i : Int) := by omega
      have hz : (P.length : Int) = (i : Int) + 1 := by omega
      by_cases hpn : p = []
      · subst hpn
        have hq : ((st []).toList == ([] : List UInt8)) = true := by rw [st_toList]; rfl
        have HN : Aside (prs P 0 = (some D, i) ∧ Mts L D ∧ EOwn wr w2.heap.size (.slice a L.length cap) L ∧ Dts wr (.slice a L.length cap) L ∧ Stp [] w2 [] wr) := ⟨by rw [hpr]; simp [prs, pre], hD, hO, hd, hSt⟩
        clear HS hO hd hD hpr hSt hd1 hp
        go_wp2
        go_ret3
        obtain ⟨a', cap', ea, hEr, _⟩ := HN.out.2.2.1.er (fun x hx => (HN.out.2.2.2.1 x hx).1)
        rw [HN.out.1]
        refine ⟨HA.out.trans HN.out.2.2.2.2, a', cap', L, ?_, hEr, HN.out.2.1⟩
        rw [ea]
        rfl
      · have hq : ((st p).toList == ([] : List UInt8)) = false := by rw [st_toList]; simp [hpn]
        have HN : Aside (prs P 0 = (none, i) ∧ Stp [] w2 [] wr) := ⟨by rw [hpr]; simp [prs, pre, hpn], hSt⟩
        clear HS hO hd hD hpr hSt hd1 hp
        go_wp2
        go_ret3
        rw [HN.out.1]
        exact ⟨HA.out.trans HN.out.2, rfl⟩
end Go.Proofs.YthfiilhbgogoaaaGreatDoor
/-
  The document: Written.
-/
namespace Go.Proofs.YthfiilhbgogoaaaGreatDoor
open Go.RowKit Go.Lib
set_option linter.unusedVariables false

set_option maxHeartbeats 1000000 in
set_option maxRecDepth 100000 in
theorem rwritten_run (a : Option Addr) (cap : Nat) (L : List Ev) (w : World) (hE : Er w a L) (hl : L.length ≤ 100000) (hb : (wrt L).length ≤ 900000) :
    Calls Tryz.prog 14 #[.slice a L.length cap] w (Wrt (wrt L) w) := by
  have HE : Aside (Er w a L) := hE
  clear hE
  go_enter Tryz.func14, Tryz.ntmps14
  go_wp2
  go_loopg [3, 4, 5] L.length (fun gk v3 v4 v5 wr => ∃ i : Nat, v4 = .int .i64 (i : Int) ∧ i ≤ L.length ∧ L.length - i ≤ gk ∧ Aside (Own wr w.heap.size v3 (wrt (L.take i)) ∧ Stp [] w [] wr))
  case atStart => exact ⟨0, rfl, by omega, by omega, Own.nil _ _, Stp.refl _ _⟩
  case round =>
    obtain ⟨i, rfl, hi, hg, HS⟩ := hrel
    obtain ⟨a3, c3, hv3, _, _, _, _⟩ := HS.out.1.bts
    subst hv3
    by_cases hlt : i < L.length
    · have hltz : (i : Int) < (L.length : Int) := by omega
      obtain ⟨x, hx⟩ : ∃ x, L[i]? = some x := ⟨L[i], List.getElem?_eq_getElem hlt⟩
      obtain ⟨b, off, ha, hc⟩ := HE.out.2 (fun e => by simp [e] at hlt)
      subst ha
      have HC : Aside (Ec w b (off + i * 7) x ∧ Ed w x) := ⟨hc i x hx, HE.out.1 x (List.mem_of_getElem? hx)⟩
      have HN : Aside (wrt (L.take (i + 1)) = wrt (L.take i) ++ wr1 x ∧ (wrt (L.take (i + 1))).length ≤ 900000) := ⟨wrt_snoc L i x hx, Nat.le_trans (wrt_take_le L (i + 1)) hb⟩
      have hwl : (wr1 x).length ≤ 900000 := by
        have h1 := HN.out.2
        rw [HN.out.1, List.length_append] at h1
        omega
      clear hc hx
      go_wp2
      go_loopg [3, 5] (wr1 x).length (fun gk2 v3 v5 wq => ∃ k : Nat, v5 = .int .i64 (k : Int) ∧ k ≤ (wr1 x).length ∧ (wr1 x).length - k ≤ gk2 ∧ Aside (Own wq w.heap.size v3 (wrt (L.take i) ++ (wr1 x).take k) ∧ Stp [] w [] wq))
      case atStart => exact ⟨0, rfl, by omega, by omega, by simpa using HS.out.1, HS.out.2⟩
      case round =>
        obtain ⟨k, rfl, hk, hg2, HQ⟩ := hrel
        obtain ⟨a5, c5, hv5, _, _, _, _⟩ := HQ.out.1.bts
        subst hv5
        obtain ⟨e0, e1, e2, e3, e4, e5, e6⟩ := HC.out.1.stays HQ.out.2
        by_cases hkl : k < (wr1 x).length
        · have hx2 : x.k = 2 := by
            rcases Classical.em (x.k = 2) with e | e
            · exact e
            · unfold wr1 at hkl
              rw [if_neg e] at hkl
              simp at hkl
          have hw : wr1 x = x.l.take (min (max x.n 0) (x.l.length : Int)).toNat := by unfold wr1; rw [if_pos hx2]
          have hlen := congrArg List.length hw
          rw [List.length_take] at hlen
          have g1 : (k : Int) < (x.l.length : Int) := by omega
          have g2 : (k : Int) < x.n := by omega
          have hke : (x.k == 2) = true := by rw [hx2]; rfl
          obtain ⟨xb, xo, hxa, hxc⟩ := (HC.out.2.stays HQ.out.2).1 (by intro e; rw [e] at g1; simp at g1; omega)
          have hcell := hxc k (by omega)
          unfold bval at hcell
          have HZ : Aside (wrt (L.take i) ++ (wr1 x).take (k + 1) = (wrt (L.take i) ++ (wr1 x).take k) ++ [x.l[k]!] ∧ (wrt (L.take i) ++ (wr1 x).take k).length ≤ 900000) := by
            refine ⟨?_, ?_⟩
            · have e : (wr1 x)[k] = x.l[k]! := by
                rw [getElem!_pos x.l k (by omega)]
                have : ∀ (m : List UInt8) (h : wr1 x = m) (q : k < m.length), (wr1 x)[k] = m[k] := fun m h q => by subst h; rfl
                rw [this _ hw (by rw [List.length_take]; omega)]
                simp
              rw [List.take_succ_eq_append_getElem hkl, e, List.append_assoc]
            · have h1 := HN.out.2
              rw [HN.out.1, List.length_append] at h1
              rw [List.length_append, List.length_take]
              omega
          have HO : Aside (Own wr w.heap.size (.slice a5 (wrt (L.take i) ++ (wr1 x).take k).length c5) (wrt (L.take i) ++ (wr1 x).take k) ∧ Stp [] w [] wr) := HQ.out
          clear hw hlen hxc HQ
          generalize x.l[k]! = c at *
          generalize wrt (L.take i) ++ (wr1 x).take k = Z at *
          have hlit : Aside (Blk (wr.alloc (.cells #[.int .u8 (c.toNat : Int)] 5)) wr.heap.size [c]) := heap_alloc_new wr _
          go_wp2_with (at_builtin
                       refine wpList_app rfl (.tmp 39) (.tmp 48) rfl w.heap.size (.slice a5 Z.length c5) Z rfl (HO.out.1.other (Stp.alloc [] _ _) (by simp)) (some ⟨wr.heap.size, 0, none⟩) 1 1 [c] rfl rfl hlit.out.bts (fun h => by cases h) (by have := HZ.out.2; simp; omega) (by have := HO.out.2.size; rw [World.size_alloc]; omega) ?_
                       intro v9 w9 o9 g9
                       have H9 : Aside (Own w9 w.heap.size v9 (Z ++ [c]) ∧ Stp [] w [] w9) := ⟨o9, (HO.out.2.trans (Stp.alloc [] _ _)).app g9 (fun q hq => (HO.out.1.lt q hq).1)⟩
                       clear o9 g9)
          go_roundg ((wr1 x).length - (k + 1))
          case measure => omega
          case rel => exact ⟨k + 1, by go_num, by omega, by omega, by rw [HZ.out.1]; exact H9.out.1, H9.out.2⟩
        · have HO : Aside (Own wr w.heap.size (.slice a5 (wrt (L.take i) ++ (wr1 x).take k).length c5) (wrt (L.take (i + 1))) ∧ Stp [] w [] wr) := by
            have h1 := HQ.out
            refine ⟨?_, h1.2⟩
            have h2 : wrt (L.take (i + 1)) = wrt (L.take i) ++ (wr1 x).take k := by rw [HN.out.1, List.take_of_length_le (show (wr1 x).length ≤ k by omega)]
            rw [h2]
            exact h1.1
          have hcase : x.k ≠ 2 ∨ (x.k = 2 ∧ ¬ (k : Int) < (x.l.length : Int)) ∨ (x.k = 2 ∧ (k : Int) < (x.l.length : Int) ∧ ¬ (k : Int) < x.n) := by
            by_cases e : x.k = 2
            · by_cases e2 : (k : Int) < (x.l.length : Int)
              · refine .inr (.inr ⟨e, e2, fun e3 => hkl ?_⟩)
                unfold wr1
                rw [if_pos e, List.length_take]
                omega
              · exact .inr (.inl ⟨e, e2⟩)
            · exact .inl e
          clear HQ hkl
          generalize (wrt (L.take i) ++ (wr1 x).take k).length = zl at *
          rcases hcase with hc | ⟨hc, hc2⟩ | ⟨hc, hc2, hc3⟩
          · have hke : (x.k == 2) = false := beq_eq_false_iff_ne.2 hc
            go_wp2
            go_roundg (L.length - (i + 1))
            case measure => omega
            case rel => exact ⟨i + 1, by go_num, by omega, by omega, HO.out.1, HO.out.2⟩
          · have hke : (x.k == 2) = true := by rw [hc]; rfl
            go_wp2
            go_roundg (L.length - (i + 1))
            case measure => omega
            case rel => exact ⟨i + 1, by go_num, by omega, by omega, HO.out.1, HO.out.2⟩
          · have hke : (x.k == 2) = true := by rw [hc]; rfl
            go_wp2
            go_roundg (L.length - (i + 1))
            case measure => omega
            case rel => exact ⟨i + 1, by go_num, by omega, by omega, HO.out.1, HO.out.2⟩
    · have hltz : ¬ (i : Int) < (L.length : Int) := by omega
      have HF : Aside (Own wr w.heap.size (.slice a3 (wrt (L.take i)).length c3) (wrt L) ∧ Stp [] w [] wr) := by
        have h1 := HS.out
        refine ⟨?_, h1.2⟩
        have e : wrt L = wrt (L.take i) := by rw [List.take_of_length_le (show L.length ≤ i by omega)]
        rw [e]
        exact h1.1
      go_wp2
      go_ret
      exact ⟨_, rfl, HF.out.1, HF.out.2⟩
end Go.Proofs.YthfiilhbgogoaaaGreatDoor
/-
  The document: Same.
-/
namespace Go.Proofs.YthfiilhbgogoaaaGreatDoor
open Go.RowKit Go.Lib Go.BigFrame
set_option linter.unusedVariables false

/-- Are two effects the same? -/
def sme (x y : Ev) : Bool := decide (x.k = y.k ∧ (x.f = y.f ∧ x.m = y.m ∧ x.t = y.t) ∧ x.l = y.l ∧ x.n = y.n ∧ x.ok = y.ok)
def smes : List Ev → List Ev → Bool
  | [], [] => true
  | x :: L, y :: M => sme x y && smes L M
  | _, _ => false
theorem smes_len : ∀ {L M : List Ev}, smes L M = true → L.length = M.length
  | [], [], _ => rfl
  | x :: L, y :: M, h => by
    simp only [smes, Bool.and_eq_true] at h
    simp [smes_len h.2]
  | [], _ :: _, h => by cases h
  | _ :: _, [], h => by cases h
theorem smes_ne {L M : List Ev} (h : L.length ≠ M.length) : smes L M = false := by
  cases e : smes L M with
  | false => rfl
  | true => exact absurd (smes_len e) h
/-- How two effects may differ, the first field at which they do. -/
inductive Dif (x y : Ev) : Prop
  | k (h : x.k ≠ y.k)
  | f (h0 : x.k = y.k) (h : x.f ≠ y.f)
  | m (h0 : x.k = y.k) (h1 : x.f = y.f) (h : x.m ≠ y.m)
  | t (h0 : x.k = y.k) (h1 : x.f = y.f) (h2 : x.m = y.m) (h : x.t ≠ y.t)
  | l (h0 : x.k = y.k) (h1 : x.f = y.f) (h2 : x.m = y.m) (h3 : x.t = y.t) (h : x.l ≠ y.l)
  | n (h0 : x.k = y.k) (h1 : x.f = y.f) (h2 : x.m = y.m) (h3 : x.t = y.t) (h4 : x.l = y.l) (h : x.n ≠ y.n)
  | ok (h0 : x.k = y.k) (h1 : x.f = y.f) (h2 : x.m = y.m) (h3 : x.t = y.t) (h4 : x.l = y.l) (h5 : x.n = y.n) (h : x.ok ≠ y.ok)
  | none (h0 : x.k = y.k) (h1 : x.f = y.f) (h2 : x.m = y.m) (h3 : x.t = y.t) (h4 : x.l = y.l) (h5 : x.n = y.n) (h : x.ok = y.ok)
theorem dif (x y : Ev) : Dif x y := by
  by_cases h0 : x.k = y.k
  · by_cases h1 : x.f = y.f
    · by_cases h2 : x.m = y.m
      · by_cases h3 : x.t = y.t
        · by_cases h4 : x.l = y.l
          · by_cases h5 : x.n = y.n
            · by_cases h6 : x.ok = y.ok
              · exact .none h0 h1 h2 h3 h4 h5 h6
              · exact .ok h0 h1 h2 h3 h4 h5 h6
            · exact .n h0 h1 h2 h3 h4 h5
          · exact .l h0 h1 h2 h3 h4
        · exact .t h0 h1 h2 h3
      · exact .m h0 h1 h2
    · exact .f h0 h1
  · exact .k h0
set_option maxHeartbeats 4000000 in
set_option maxRecDepth 100000 in
theorem rsame_run (a a' : Option Addr) (cap cap' : Nat) (L M : List Ev) (w : World) (hE : Er w a L) (hE' : Er w a' M) (hl : L.length ≤ 100000) (hl' : M.length ≤ 100000) :
    Calls Tryz.prog 11 #[.slice a L.length cap, .slice a' M.length cap'] w (Tells (.bool (smes L M)) w) := by
  have HE : Aside (Er w a L ∧ Er w a' M) := ⟨hE, hE'⟩
  clear hE hE'
  by_cases hlen : L.length = M.length
  · have hq : ((L.length : Int) == (M.length : Int)) = true := by rw [beq_iff_eq]; omega
    rw [← hlen]
    have HL : Aside (L.length = M.length) := hlen
    clear hq hl' hlen
    go_enter Tryz.func11, Tryz.ntmps11
    go_wp2
    go_loopg [5] L.length (fun gk v5 wr => ∃ i : Nat, v5 = .int .i64 (i : Int) ∧ i ≤ L.length ∧ L.length - i ≤ gk ∧ Aside (smes L M = smes (L.drop i) (M.drop i) ∧ Stp [] w [] wr))
    case atStart => exact ⟨0, rfl, by omega, by omega, rfl, Stp.refl _ _⟩
    case round =>
      obtain ⟨i, rfl, hi, hgk, HS⟩ := hrel
      by_cases hlt : i < L.length
      · have hltz : (i : Int) < (L.length : Int) := by omega
        obtain ⟨x, hx⟩ : ∃ x, L[i]? = some x := ⟨L[i], List.getElem?_eq_getElem hlt⟩
        obtain ⟨y, hy⟩ : ∃ y, M[i]? = some y := ⟨M[i]'(by rw [← HL.out]; exact hlt), List.getElem?_eq_getElem (by rw [← HL.out]; exact hlt)⟩
        have hdx : L.drop i = x :: L.drop (i + 1) := by rw [List.drop_eq_getElem_cons hlt]; congr 1; rw [List.getElem?_eq_getElem hlt] at hx; exact Option.some.inj hx
        have hdy : M.drop i = y :: M.drop (i + 1) := by
          have h2 : i < M.length := by rw [← HL.out]; exact hlt
          rw [List.drop_eq_getElem_cons h2]; congr 1; rw [List.getElem?_eq_getElem h2] at hy; exact Option.some.inj hy
        obtain ⟨b, off, ha, hc⟩ := HE.out.1.2 (fun e => by simp [e] at hlt)
        obtain ⟨b', off', ha', hc'⟩ := HE.out.2.2 (fun e => by have h9 := HL.out; rw [e, List.length_nil] at h9; omega)
        subst ha ha'
        have hcx := (hc i x hx).stays HS.out.2
        have hcy := (hc' i y hy).stays HS.out.2
        have hdxd := (HE.out.1.1 x (List.mem_of_getElem? hx)).stays HS.out.2
        have hdyd := (HE.out.2.1 y (List.mem_of_getElem? hy)).stays HS.out.2
        have hcv1 := fun W (h : Stp [] wr [] W) => conv_bts x.c x.l.length (hdxd.1.stays h) rfl
        have hcv2 := fun W (h : Stp [] wr [] W) => conv_bts y.c y.l.length (hdyd.1.stays h) rfl
        have hcva := fun q : Nat => hcv1 (wr.drewN q) (Stp.drewN _ _ _)
        have hcvb := fun q : Nat => hcv2 (wr.drewN q) (Stp.drewN _ _ _)
        have hsm : smes L M = (sme x y && smes (L.drop (i + 1)) (M.drop (i + 1))) := by rw [HS.out.1, hdx, hdy]; rfl
        have hd := dif x y
        obtain ⟨k, f, m, t, a1, c1, l, n, ok⟩ := x
        obtain ⟨k', f', m', t', a2, c2, l', n', ok'⟩ := y
        obtain ⟨x0, x1, x2, x3, x4, x5, x6⟩ := hcx
        obtain ⟨y0, y1, y2, y3, y4, y5, y6⟩ := hcy
        have HST : Aside (Stp [] w [] wr) := HS.out.2
        simp only at *
        clear hc hc' hdxd hdyd hcv1 hcv2 hdx hdy hx hy HS
        cases hd with
        | k h =>
          simp only at h
          have HV : Aside (smes L M = false) := by
            show smes L M = false
            rw [hsm]
            simp [sme, h]
          have hb : (k == k') = false := beq_eq_false_iff_ne.2 h
          have hb2 : (k != k') = true := by simp [bne, hb]
          clear hsm h
          generalize st l = sl at *
          generalize st l' = sl' at *
          go_wp2
          refine wp_region_quiet_lit (by kernel_rfl) (by kernel_rfl) ?_
          dsimp only [List.append]
          repeat (go_big_quiet_step (fail))
          refine wpQuiet_nil ?_
          intro _ hw'
          obtain ⟨nq, hw''⟩ := hw'
          subst hw''
          go_wp2
          go_ret
          exact ⟨by rw [HV.out]; rfl, HST.out.trans (Stp.drewN _ _ _)⟩
        | f h0 h =>
          simp only at h0 h
          have HV : Aside (smes L M = false) := by
            show smes L M = false
            rw [hsm]
            simp [sme, h]
          have hb : ((f : Int) == (f' : Int)) = false := beq_eq_false_iff_ne.2 (by omega)
          subst h0
          clear hsm h
          generalize st l = sl at *
          generalize st l' = sl' at *
          go_wp2
          refine wp_region_quiet_lit (by kernel_rfl) (by kernel_rfl) ?_
          dsimp only [List.append]
          repeat (go_big_quiet_step (fail))
          refine wpQuiet_nil ?_
          intro _ hw'
          obtain ⟨nq, hw''⟩ := hw'
          subst hw''
          go_wp2
          go_ret
          exact ⟨by rw [HV.out]; rfl, HST.out.trans (Stp.drewN _ _ _)⟩
        | m h0 h1 h =>
          simp only at h0 h1 h
          have HV : Aside (smes L M = false) := by
            show smes L M = false
            rw [hsm]
            simp [sme, h]
          have hb : ((m : Int) == (m' : Int)) = false := beq_eq_false_iff_ne.2 (by omega)
          subst h0 h1
          clear hsm h
          generalize st l = sl at *
          generalize st l' = sl' at *
          go_wp2
          refine wp_region_quiet_lit (by kernel_rfl) (by kernel_rfl) ?_
          dsimp only [List.append]
          repeat (go_big_quiet_step (fail))
          refine wpQuiet_nil ?_
          intro _ hw'
          obtain ⟨nq, hw''⟩ := hw'
          subst hw''
          go_wp2
          go_ret
          exact ⟨by rw [HV.out]; rfl, HST.out.trans (Stp.drewN _ _ _)⟩
        | t h0 h1 h2 h =>
          simp only at h0 h1 h2 h
          have HV : Aside (smes L M = false) := by
            show smes L M = false
            rw [hsm]
            simp [sme, h]
          have hb : ((t : Int) == (t' : Int)) = false := beq_eq_false_iff_ne.2 (by omega)
          subst h0 h1 h2
          clear hsm h
          generalize st l = sl at *
          generalize st l' = sl' at *
          go_wp2
          refine wp_region_quiet_lit (by kernel_rfl) (by kernel_rfl) ?_
          dsimp only [List.append]
          repeat (go_big_quiet_step (fail))
          refine wpQuiet_nil ?_
          intro _ hw'
          obtain ⟨nq, hw''⟩ := hw'
          subst hw''
          go_wp2
          go_ret
          exact ⟨by rw [HV.out]; rfl, HST.out.trans (Stp.drewN _ _ _)⟩
        | l h0 h1 h2 h3 h =>
          simp only at h0 h1 h2 h3 h
          have HV : Aside (smes L M = false) := by
            show smes L M = false
            rw [hsm]
            simp [sme, h]
          have hb : ((st l).toList == (st l').toList) = false := by rw [st_toList, st_toList]; exact beq_eq_false_iff_ne.2 h
          subst h0 h1 h2 h3
          clear hsm h
          generalize st l = sl at *
          generalize st l' = sl' at *
          go_wp2
          refine wp_region_quiet_lit (by kernel_rfl) (by kernel_rfl) ?_
          dsimp only [List.append]
          repeat (go_big_quiet_step (fail))
          refine wpQuiet_nil ?_
          intro _ hw'
          obtain ⟨nq, hw''⟩ := hw'
          subst hw''
          go_wp2
          go_ret
          exact ⟨by rw [HV.out]; rfl, HST.out.trans (Stp.drewN _ _ _)⟩
        | n h0 h1 h2 h3 h4 h =>
          simp only at h0 h1 h2 h3 h4 h
          have HV : Aside (smes L M = false) := by
            show smes L M = false
            rw [hsm]
            simp [sme, h]
          have hb : (n == n') = false := beq_eq_false_iff_ne.2 h
          have hb2 : (n != n') = true := by simp [bne, hb]
          subst h0 h1 h2 h3 h4
          clear hsm h
          generalize st l = sl at *
          go_wp2
          refine wp_region_quiet_lit (by kernel_rfl) (by kernel_rfl) ?_
          dsimp only [List.append]
          repeat (go_big_quiet_step (fail))
          refine wpQuiet_nil ?_
          intro _ hw'
          obtain ⟨nq, hw''⟩ := hw'
          subst hw''
          go_wp2
          go_ret
          exact ⟨by rw [HV.out]; rfl, HST.out.trans (Stp.drewN _ _ _)⟩
        | ok h0 h1 h2 h3 h4 h5 h =>
          simp only at h0 h1 h2 h3 h4 h5 h
          have HV : Aside (smes L M = false) := by
            show smes L M = false
            rw [hsm]
            simp [sme, h]
          have hb : (ok == ok') = false := beq_eq_false_iff_ne.2 h
          have hb2 : (ok != ok') = true := by simp [bne, hb]
          subst h0 h1 h2 h3 h4 h5
          clear hsm h
          generalize st l = sl at *
          go_wp2
          refine wp_region_quiet_lit (by kernel_rfl) (by kernel_rfl) ?_
          dsimp only [List.append]
          repeat (go_big_quiet_step (fail))
          refine wpQuiet_nil ?_
          intro _ hw'
          obtain ⟨nq, hw''⟩ := hw'
          subst hw''
          go_wp2
          go_ret
          exact ⟨by rw [HV.out]; rfl, HST.out.trans (Stp.drewN _ _ _)⟩
        | none h0 h1 h2 h3 h4 h5 h =>
          simp only at h0 h1 h2 h3 h4 h5 h
          subst h0 h1 h2 h3 h4 h5 h
          have HV : Aside (smes L M = smes (L.drop (i + 1)) (M.drop (i + 1))) := by
            show smes L M = _
            rw [hsm]
            simp [sme]
          clear hsm
          generalize st l = sl at *
          go_wp2
          refine wp_region_quiet_lit (by kernel_rfl) (by kernel_rfl) ?_
          dsimp only [List.append]
          repeat (go_big_quiet_step (fail))
          refine wpQuiet_nil ?_
          intro _ hw'
          obtain ⟨nq, hw''⟩ := hw'
          subst hw''
          go_wp2
          go_roundg (L.length - (i + 1))
          case measure => omega
          case rel => exact ⟨i + 1, by go_num, by omega, by omega, HV.out, HST.out.trans (Stp.drewN _ _ _)⟩
      · have hltz : decide ((i : Int) < (L.length : Int)) = false := decide_eq_false (by omega)
        have hltz2 : ¬ (i : Int) < (L.length : Int) := by omega
        have HV : Aside (smes L M = true) := by
          show smes L M = true
          rw [HS.out.1, List.drop_eq_nil_of_le (by omega), List.drop_eq_nil_of_le (by have := HL.out; omega)]
          rfl
        go_wp2
        go_ret
        exact ⟨by rw [HV.out]; rfl, HS.out.2⟩
  · have HV : Aside (smes L M = false) := smes_ne hlen
    have hq : ((L.length : Int) == (M.length : Int)) = false := beq_eq_false_iff_ne.2 (by omega)
    have hq2 : ((L.length : Int) != (M.length : Int)) = true := by simp [bne, hq]
    clear hl hl' hlen
    go_enter Tryz.func11, Tryz.ntmps11
    go_wp2
    go_ret
    exact ⟨by rw [HV.out]; rfl, Stp.refl _ _⟩
end Go.Proofs.YthfiilhbgogoaaaGreatDoor
/-
  trace.Same, of any two rows of effects.
-/
namespace Go.Proofs.YthfiilhbgogoaaaGreatDoor
open Go.RowKit Go.Lib
set_option linter.unusedVariables false

theorem equal_gen (a a' : Option Addr) (c c' : Nat) (l l' : List UInt8) (w : World) (h : Bts w a l) (h' : Bts w a' l') : Calls Tryz.prog 41 #[.slice a l.length c, .slice a' l'.length c'] w (Gives (.bool (decide (l = l'))) w) := by
  refine (Tryz.bytes_Equal_strs _ _ (st l) (st l') w (conv_bts c _ h rfl) (conv_bts c' _ h' rfl)).mono ?_
  rintro e w' ⟨rfl, rfl⟩
  by_cases e : l = l'
  · subst e
    exact ⟨by rw [st_yes rfl, decide_eq_true rfl], rfl⟩
  · have h1 : st l ≠ st l' := fun h => e (by rw [← st_data l, h, st_data])
    exact ⟨by rw [st_no h1, decide_eq_false e], rfl⟩
set_option maxHeartbeats 2000000 in
set_option maxRecDepth 100000 in
theorem same_gen (x y : Ev) (w : World) (h : Bts w x.a x.l) (h' : Bts w y.a y.l) :
    Calls Tryz.prog 26 #[.agg #[.int .i64 x.k, .int .u32 (x.f : Int), .int .u8 (x.m : Int), .int .u8 (x.t : Int), .slice x.a x.l.length x.c, .int .i64 x.n, .bool x.ok], .agg #[.int .i64 y.k, .int .u32 (y.f : Int), .int .u8 (y.m : Int), .int .u8 (y.t : Int), .slice y.a y.l.length y.c, .int .i64 y.n, .bool y.ok]] w (Tells (.bool (sme x y)) w) := by
  have KE : Hid (∀ W, Stp [] w [] W → Calls Tryz.prog 41 #[.slice x.a x.l.length x.c, .slice y.a y.l.length y.c] W (Gives (.bool (decide (x.l = y.l))) W)) := Lib.hid fun W hs => equal_gen x.a y.a x.c y.c x.l y.l W (h.stays hs) (h'.stays hs)
  have hd := dif x y
  obtain ⟨B, hB⟩ : ∃ B, sme x y = B := ⟨_, rfl⟩
  rw [hB]
  clear h h'
  obtain ⟨k, f, m, t, a, c, l, n, ok⟩ := x
  obtain ⟨k', f', m', t', a', c', l', n', ok'⟩ := y
  dsimp only at KE ⊢
  cases hd with
  | k h =>
    dsimp only at h
    have HV : Aside (B = false) := by
      show B = false
      rw [← hB]
      simp [sme, h]
    clear hB
    have hb : (k == k') = false := beq_eq_false_iff_ne.2 h
    clear h
    go_enter Tryz.func26, Tryz.ntmps26
    clear KE
    go_wp2
    go_ret
    exact ⟨by rw [HV.out]; rfl, (Stp.alloc [] _ _).trans (Stp.alloc [] _ _)⟩
  | f h0 h =>
    dsimp only at h0 h
    have HV : Aside (B = false) := by
      show B = false
      rw [← hB]
      simp [sme, h]
    clear hB
    have hb : ((f : Int) == (f' : Int)) = false := beq_eq_false_iff_ne.2 (by omega)
    subst h0
    clear h
    go_enter Tryz.func26, Tryz.ntmps26
    clear KE
    go_wp2
    go_ret
    exact ⟨by rw [HV.out]; rfl, (Stp.alloc [] _ _).trans (Stp.alloc [] _ _)⟩
  | m h0 h1 h =>
    dsimp only at h0 h1 h
    have HV : Aside (B = false) := by
      show B = false
      rw [← hB]
      simp [sme, h]
    clear hB
    have hb : ((m : Int) == (m' : Int)) = false := beq_eq_false_iff_ne.2 (by omega)
    subst h0 h1
    clear h
    go_enter Tryz.func26, Tryz.ntmps26
    clear KE
    go_wp2
    go_ret
    exact ⟨by rw [HV.out]; rfl, (Stp.alloc [] _ _).trans (Stp.alloc [] _ _)⟩
  | t h0 h1 h2 h =>
    dsimp only at h0 h1 h2 h
    have HV : Aside (B = false) := by
      show B = false
      rw [← hB]
      simp [sme, h]
    clear hB
    have hb : ((t : Int) == (t' : Int)) = false := beq_eq_false_iff_ne.2 (by omega)
    subst h0 h1 h2
    clear h
    go_enter Tryz.func26, Tryz.ntmps26
    clear KE
    go_wp2
    go_ret
    exact ⟨by rw [HV.out]; rfl, (Stp.alloc [] _ _).trans (Stp.alloc [] _ _)⟩
  | l h0 h1 h2 h3 h =>
    dsimp only at h0 h1 h2 h3 h
    have HV : Aside (B = false) := by
      show B = false
      rw [← hB]
      simp [sme, h]
    clear hB
    rw [decide_eq_false h] at KE
    subst h0 h1 h2 h3
    clear h
    go_enter Tryz.func26, Tryz.ntmps26
    go_wp2_with fail
    refine (KE.out _ ((Stp.alloc [] _ _).trans (Stp.alloc [] _ _))).mono ?_
    rintro _ w1 ⟨rfl, hw⟩
    have HS : Aside (Stp [] w [] w1) := by rw [hw]; exact (Stp.alloc [] _ _).trans (Stp.alloc [] _ _)
    subst hw
    go_wp2
    go_ret
    exact ⟨by rw [HV.out]; rfl, HS.out⟩
  | n h0 h1 h2 h3 h4 h =>
    dsimp only at h0 h1 h2 h3 h4 h
    have HV : Aside (B = false) := by
      show B = false
      rw [← hB]
      simp [sme, h]
    clear hB
    have hb : (n == n') = false := beq_eq_false_iff_ne.2 h
    subst h0 h1 h2 h3 h4
    rw [decide_eq_true rfl] at KE
    clear h
    go_enter Tryz.func26, Tryz.ntmps26
    go_wp2_with fail
    refine (KE.out _ ((Stp.alloc [] _ _).trans (Stp.alloc [] _ _))).mono ?_
    rintro _ w1 ⟨rfl, hw⟩
    have HS : Aside (Stp [] w [] w1) := by rw [hw]; exact (Stp.alloc [] _ _).trans (Stp.alloc [] _ _)
    subst hw
    go_wp2
    go_ret
    exact ⟨by rw [HV.out]; rfl, HS.out⟩
  | ok h0 h1 h2 h3 h4 h5 h =>
    dsimp only at h0 h1 h2 h3 h4 h5 h
    have HV : Aside (B = false) := by
      show B = false
      rw [← hB]
      simp [sme, h]
    clear hB
    have hb : (ok == ok') = false := beq_eq_false_iff_ne.2 h
    subst h0 h1 h2 h3 h4 h5
    rw [decide_eq_true rfl] at KE
    clear h
    go_enter Tryz.func26, Tryz.ntmps26
    go_wp2_with fail
    refine (KE.out _ ((Stp.alloc [] _ _).trans (Stp.alloc [] _ _))).mono ?_
    rintro _ w1 ⟨rfl, hw⟩
    have HS : Aside (Stp [] w [] w1) := by rw [hw]; exact (Stp.alloc [] _ _).trans (Stp.alloc [] _ _)
    subst hw
    go_wp2
    go_ret
    exact ⟨by rw [HV.out]; rfl, HS.out⟩
  | none h0 h1 h2 h3 h4 h5 h =>
    dsimp only at h0 h1 h2 h3 h4 h5 h
    have HV : Aside (B = true) := by
      show B = true
      rw [← hB]
      simp [sme, h0, h1, h2, h3, h4, h5, h]
    clear hB
    subst h0 h1 h2 h3 h4 h5 h
    rw [decide_eq_true rfl] at KE
    go_enter Tryz.func26, Tryz.ntmps26
    go_wp2_with fail
    refine (KE.out _ ((Stp.alloc [] _ _).trans (Stp.alloc [] _ _))).mono ?_
    rintro _ w1 ⟨rfl, hw⟩
    have HS : Aside (Stp [] w [] w1) := by rw [hw]; exact (Stp.alloc [] _ _).trans (Stp.alloc [] _ _)
    subst hw
    go_wp2
    go_ret
    exact ⟨by rw [HV.out]; rfl, HS.out⟩
set_option maxHeartbeats 1000000 in
set_option maxRecDepth 100000 in
theorem eqf3_run (a a' : Option Addr) (cap cap' : Nat) (L M : List Ev) (w : World) (hE : Er w a L) (hM : Er w a' M) (hl : L.length ≤ 100000) (hl' : M.length ≤ 100000) :
    Calls Tryz.prog 25 #[.slice a L.length cap, .slice a' M.length cap', .func (.func 26) #[] #[]] w (Tells (.bool (smes L M)) w) := by
  have HE : Aside (Er w a L ∧ Er w a' M) := ⟨hE, hM⟩
  clear hE hM
  by_cases hlen : L.length = M.length
  · rw [← hlen]
    have HL : Aside (L.length = M.length) := hlen
    clear hlen hl'
    go_enter Tryz.func25, Tryz.ntmps25
    go_wp2
    go_loopg [17] L.length (fun gk v17 wr => ∃ i : Nat, v17 = .int .i64 (i : Int) ∧ i ≤ L.length ∧ L.length - i ≤ gk ∧ Aside (smes L M = smes (L.drop i) (M.drop i) ∧ Stp [] w [] wr))
    case atStart => exact ⟨0, rfl, by omega, by omega, rfl, Stp.refl _ _⟩
    case round =>
      obtain ⟨i, rfl, hi, hg, HS⟩ := hrel
      by_cases hlt : i < L.length
      · have hltz : (i : Int) < (L.length : Int) := by omega
        have h2 : i < M.length := by rw [← HL.out]; exact hlt
        obtain ⟨x, hx⟩ : ∃ x, L[i]? = some x := ⟨L[i], List.getElem?_eq_getElem hlt⟩
        obtain ⟨y, hy⟩ : ∃ y, M[i]? = some y := ⟨M[i], List.getElem?_eq_getElem h2⟩
        have hdx : L.drop i = x :: L.drop (i + 1) := by rw [List.drop_eq_getElem_cons hlt]; congr 1; rw [List.getElem?_eq_getElem hlt] at hx; exact Option.some.inj hx
        have hdy : M.drop i = y :: M.drop (i + 1) := by rw [List.drop_eq_getElem_cons h2]; congr 1; rw [List.getElem?_eq_getElem h2] at hy; exact Option.some.inj hy
        obtain ⟨b, off, ha, hc⟩ := HE.out.1.2 (fun e => by simp [e] at hlt)
        subst ha
        obtain ⟨b', off', ha', hc'⟩ := HE.out.2.2 (fun e => by simp [e] at h2)
        subst ha'
        obtain ⟨e0, e1, e2, e3, e4, e5, e6⟩ := (hc i x hx).stays HS.out.2
        obtain ⟨z0, z1, z2, z3, z4, z5, z6⟩ := (hc' i y hy).stays HS.out.2
        have hsm : smes L M = (sme x y && smes (L.drop (i + 1)) (M.drop (i + 1))) := by rw [HS.out.1, hdx, hdy]; rfl
        have HD : Aside (Ed wr x ∧ Ed wr y) := ⟨(HE.out.1.1 x (List.mem_of_getElem? hx)).stays HS.out.2, (HE.out.2.1 y (List.mem_of_getElem? hy)).stays HS.out.2⟩
        have hbl : b < wr.heap.size := block_lt_of_cell e0
        have hbn : ¬ b = wr.heap.size := by omega
        have hbl' : b' < wr.heap.size := block_lt_of_cell z0
        have hbn' : ¬ b' = wr.heap.size := by omega
        have KS : Hid (∀ W, Stp [] wr [] W → Calls Tryz.prog 26 #[.agg #[.int .i64 x.k, .int .u32 (x.f : Int), .int .u8 (x.m : Int), .int .u8 (x.t : Int), .slice x.a x.l.length x.c, .int .i64 x.n, .bool x.ok], .agg #[.int .i64 y.k, .int .u32 (y.f : Int), .int .u8 (y.m : Int), .int .u8 (y.t : Int), .slice y.a y.l.length y.c, .int .i64 y.n, .bool y.ok]] W (Tells (.bool (sme x y)) W)) := Lib.hid fun W hs => same_gen x y W (HD.out.1.1.stays hs) (HD.out.2.1.stays hs)
        obtain ⟨B, hB⟩ : ∃ B, sme x y = B := ⟨_, rfl⟩
        rw [hB] at KS hsm
        have HSM := Lib.hid hsm
        clear hc hx hc' hy hdx hdy hsm h2 hB
        go_wp2_with fail
        refine (KS.out _ ((Stp.alloc [] _ _).trans (Stp.alloc [] _ _))).mono ?_
        rintro _ w5 ⟨rfl, h5⟩
        have H5 : Aside (Stp [] w [] w5) := (HS.out.2.trans ((Stp.alloc [] _ _).trans (Stp.alloc [] _ _))).trans h5
        clear h5 e0 e1 e2 e3 e4 e5 e6 z0 z1 z2 z3 z4 z5 z6
        cases B with
        | true =>
          go_wp2
          go_roundg (L.length - (i + 1))
          case measure => omega
          case rel => exact ⟨i + 1, by go_num, by omega, by omega, HSM.out.trans (Bool.true_and _), H5.out⟩
        | false =>
          go_wp2
          go_ret
          exact ⟨by rw [HSM.out]; rfl, H5.out⟩
      · have hltz : ¬ (i : Int) < (L.length : Int) := by omega
        obtain rfl : i = L.length := by omega
        have HV : Aside (smes L M = true) := by
          have h1 := HS.out.1
          rw [List.drop_length, HL.out, List.drop_length] at h1
          exact h1
        go_wp2
        go_ret
        exact ⟨by rw [HV.out]; rfl, HS.out.2⟩
  · have hq : ((L.length : Int) != (M.length : Int)) = true := by
      have h1 : ((L.length : Int) == (M.length : Int)) = false := beq_eq_false_iff_ne.2 (by omega)
      simp [bne, h1]
    have HV : Aside (smes L M = false) := smes_ne hlen
    clear hlen
    go_enter Tryz.func25, Tryz.ntmps25
    go_wp2
    go_ret
    exact ⟨by rw [HV.out]; rfl, Stp.refl _ _⟩
set_option maxRecDepth 100000 in
theorem same3_run (a a' : Option Addr) (cap cap' : Nat) (L M : List Ev) (w : World) (hE : Er w a L) (hM : Er w a' M) (hl : L.length ≤ 100000) (hl' : M.length ≤ 100000) :
    Calls Tryz.prog 12 #[.slice a L.length cap, .slice a' M.length cap'] w (Tells (.bool (smes L M)) w) := by
  have K := Lib.hid (eqf3_run a a' cap cap' L M w hE hM hl hl')
  clear hE hM
  go_enter Tryz.func12, Tryz.ntmps12
  go_wp2_with fail
  refine K.out.mono ?_
  rintro _ w1 ⟨rfl, h1⟩
  go_wp2
  go_ret
  exact ⟨rfl, h1⟩
end Go.Proofs.YthfiilhbgogoaaaGreatDoor
