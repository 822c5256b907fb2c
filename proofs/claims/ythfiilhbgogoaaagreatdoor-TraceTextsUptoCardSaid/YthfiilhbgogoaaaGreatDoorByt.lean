/-
  trace.bytesOf: the bytes of a text to the base 16.
-/
import Derived.Test.YthfiilhbgogoaaaGreatDoorSplit
import Derived.Deep.RegionHeld3
import Derived.IntWalk
namespace Go.Proofs.YthfiilhbgogoaaaGreatDoor
open Go.RowKit Go.Lib
set_option linter.unusedVariables false

def H16 : List UInt8 := [48, 49, 50, 51, 52, 53, 54, 55, 56, 57, 97, 98, 99, 100, 101, 102]
def hx (c : UInt8) : Int := Lib.indexByte H16 c
def pairs : List UInt8 → Option (List UInt8)
  | [] => some []
  | [_] => none
  | a :: b :: r => if hx a < 0 ∨ hx b < 0 then none else (pairs r).map fun d => (hx a * 16 + hx b).toNat.toUInt8 :: d
/-- The bytes of a text, or that it is none's. -/
def unhex (s : List UInt8) : Option (List UInt8) := if s = [45] then some [] else if s = [] ∨ s.length % 2 ≠ 0 then none else pairs s
/-- New bytes. -/
def Bytes (o : Option (List UInt8)) (w : World) (e : Ending) (w' : World) : Prop :=
  Stp [] w [] w' ∧ match o with
    | none => e = .returned (.tuple #[.slice none 0 0, .bool false])
    | some d => ∃ a cap, e = .returned (.tuple #[.slice a d.length cap, .bool true]) ∧ Bts w' a d ∧ d.length ≤ cap ∧ (a = none → cap = 0) ∧ ∀ ad, a = some ad → w.heap.size ≤ ad.block
theorem make_any (w : World) (kl kc : IntKind) (n : Nat) (hn : n ≤ 1000000) :
    (Instr.makeSlice 35 (.int kl (n : Int)) (.int kc (n : Int))).run Tryz.prog w = .ok (.slice (some ⟨w.heap.size, 0, none⟩) n n) (w.alloc (.cells ((List.replicate n (0 : UInt8)).map bval).toArray 5)) := by
  obtain ⟨i0, hi0, hz0, hz1, hz2⟩ := info_parts byte_info
  have hr := run_make (P := Tryz.prog) w 35 5 i0 _ Tryz.underlying35 hi0 hz0 kl kc n n (by omega) (by omega) (by rw [hz2]; omega) (by omega)
  rw [hr]
  simp only [Int.toNat_natCast, hz1, Nat.mul_one]
  refine congrArg (fun C => Result.ok (Value.slice (some ⟨w.heap.size, 0, none⟩) n n) (w.alloc (Obj.cells C 5))) ?_
  apply Array.ext
  · simp [madeCells]
  · intro i h1 h2
    simp [madeCells, Value.cells, bval, Nat.mod_one]
theorem hx_lt (c : UInt8) : hx c < 16 := by
  have : ∀ l : List UInt8, Lib.indexByte l c < l.length ∨ Lib.indexByte l c = -1 := by
    intro l
    induction l with
    | nil => simp [Lib.indexByte]
    | cons b l ih =>
      unfold Lib.indexByte
      split
      · simp
      · split
        · simp
        · rename_i h
          simp at h
          simp
          omega
  have h := this H16
  have e : H16.length = 16 := rfl
  unfold hx
  omega
theorem ind_run (c : UInt8) (w : World) : Calls Tryz.prog 70 #[.string ⟨#[48, 49, 50, 51, 52, 53, 54, 55, 56, 57, 97, 98, 99, 100, 101, 102]⟩, .int .u8 (c.toNat : Int)] w (Gives (.int .i64 (hx c)) w) := by
  refine (Tryz.strings_IndexByte ⟨#[48, 49, 50, 51, 52, 53, 54, 55, 56, 57, 97, 98, 99, 100, 101, 102]⟩ (c.toNat : Int) w).mono ?_
  rintro e w' ⟨rfl, rfl⟩
  have : ((c.toNat : Int)).toNat.toUInt8 = c := by simp
  rw [this]
  exact ⟨rfl, rfl⟩
theorem or16 : ∀ u : Nat, u < 16 → ∀ v : Nat, v < 16 → bits BinOp.or IntKind.i64 ((u : Int) * 16) (v : Int) % 256 = (u : Int) * 16 + (v : Int) := by decide +kernel
theorem or_val {u v : Nat} (hu : u < 16) (hv : v < 16) : Value.int .u8 (bits BinOp.or IntKind.i64 ((u : Int) * 16) (v : Int) % 256) = bval (((u : Int) * 16 + (v : Int)).toNat.toUInt8) := by
  rw [or16 u hu v hv]
  have e : ((u : Int) * 16 + (v : Int)).toNat = u * 16 + v := by omega
  rw [e]
  have h : (u * 16 + v).toUInt8.toNat = u * 16 + v := by
    rw [UInt8.toNat_ofNat']
    omega
  unfold bval
  rw [h]
  exact congrArg _ (by omega)
theorem set_mid (D : List UInt8) (k : Nat) (x : UInt8) : (D ++ List.replicate (k + 1) (0 : UInt8)).set D.length x = (D ++ [x]) ++ List.replicate k 0 := by
  rw [List.replicate_succ]
  simp
set_option maxHeartbeats 1000000 in
set_option maxRecDepth 100000 in
theorem byt_run (s : List UInt8) (hs : s.length ≤ 100000) (w : World) : Calls Tryz.prog 54 #[.string (st s)] w (Bytes (unhex s) w) := by
  have hsz := st_size s
  by_cases h1 : s = [45]
  · subst h1
    have hst : st [45] = ⟨#[45]⟩ := rfl
    rw [hst]
    clear hsz
    go_enter Tryz.func54, Tryz.ntmps54
    go_wp2
    go_ret2
    exact ⟨Stp.refl _ _, none, 0, rfl, Bts.nil _ _, by simp, fun _ => rfl, fun _ h => by cases h⟩
  have hq1 : ((st s).toList == [45]) = false := by rw [st_toList]; exact beq_eq_false_iff_ne.2 h1
  by_cases h2 : s = []
  · subst h2
    have hst : st [] = ⟨#[]⟩ := rfl
    rw [hst]
    clear hsz hq1 h1
    go_enter Tryz.func54, Tryz.ntmps54
    go_wp2
    go_ret2
    exact ⟨Stp.refl _ _, rfl⟩
  have hemp := emp_st h2
  by_cases h3 : s.length % 2 = 0
  · have HU : Aside (unhex s = pairs s) := by
      show unhex s = pairs s
      unfold unhex
      rw [if_neg h1, if_neg (by simp [h2, h3])]
    obtain ⟨n, hn⟩ : ∃ n, s.length = 2 * n := ⟨s.length / 2, by omega⟩
    have hmod : (s.length : Int) % 2 = 0 := by omega
    have hdiv : (s.length : Int) / 2 = (n : Int) := by omega
    have htm : Int.tmod (s.length : Int) 2 = 0 := by rw [Int.tmod_eq_emod_of_nonneg (by omega)]; exact hmod
    have htd : Int.tdiv (s.length : Int) 2 = (n : Int) := by rw [Int.tdiv_eq_ediv_of_nonneg (by omega)]; exact hdiv
    have hmk := make_any w .i64 .i64 n (by omega)
    have H0 : Aside (Blk (w.alloc (.cells ((List.replicate n (0 : UInt8)).map bval).toArray 5)) w.heap.size (List.replicate n 0) ∧ Stp [] w [] (w.alloc (.cells ((List.replicate n (0 : UInt8)).map bval).toArray 5))) := ⟨heap_alloc_new _ _, Stp.alloc _ _ _⟩
    have KI : Hid (∀ (W : World) (c : UInt8), Calls Tryz.prog 70 #[.string ⟨#[48, 49, 50, 51, 52, 53, 54, 55, 56, 57, 97, 98, 99, 100, 101, 102]⟩, .int .u8 (c.toNat : Int)] W (Gives (.int .i64 (hx c)) W)) := Lib.hid fun W c => ind_run c W
    have HI : Hid (∀ i : Nat, i < s.length → ∀ W, (Instr.index 9 (.string (st s)) (.int .i64 (i : Int))).run Tryz.prog W = .ok (bval (s[i]!)) W) := Lib.hid fun i hi W => index_st _ i hi W
    have hgen : ((List.replicate n (0 : UInt8)).map bval).toArray = ((List.replicate n (0 : UInt8)).map bval).toArray := rfl
    clear hmod hdiv h2 h1 h3
    generalize w.alloc (.cells ((List.replicate n (0 : UInt8)).map bval).toArray 5) = w0 at *
    go_enter Tryz.func54, Tryz.ntmps54
    go_wp2
    go_loopg [24] n (fun gk v24 wr => ∃ i : Nat, v24 = .int .i64 (i : Int) ∧ i ≤ n ∧ n - i ≤ gk ∧ Aside (∃ D : List UInt8, D.length = i ∧ pairs s = (pairs (s.drop (2 * i))).map (fun d => D ++ d) ∧ Blk wr w.heap.size (D ++ List.replicate (n - i) 0) ∧ Stp [] w [] wr))
    case atStart => exact ⟨0, rfl, by omega, by omega, [], rfl, by simp, H0.out.1, H0.out.2⟩
    case round =>
      obtain ⟨i, rfl, hi, hg, HS⟩ := hrel
      obtain ⟨D, hD, hp, hB, hSt⟩ := HS.out
      by_cases hlt : i < n
      · have hltz : (i : Int) < (n : Int) := by omega
        obtain ⟨a, b, r, hab⟩ : ∃ a b r, s.drop (2 * i) = a :: b :: r := by
          rw [List.drop_eq_getElem_cons (by omega), List.drop_eq_getElem_cons (by omega)]
          exact ⟨_, _, _, rfl⟩
        have hdr : s.drop (2 * (i + 1)) = r := by
          rw [show 2 * (i + 1) = 2 * i + 2 by omega, ← List.drop_drop, hab]
          rfl
        have ha : s[2 * i]! = a := by
          have : (s.drop (2 * i))[0]? = some a := by rw [hab]; rfl
          rw [List.getElem?_drop] at this
          rw [List.getElem!_eq_getElem?_getD]
          simp at this
          simp [this]
        have hb : s[2 * i + 1]! = b := by
          have : (s.drop (2 * i))[1]? = some b := by rw [hab]; rfl
          rw [List.getElem?_drop] at this
          rw [List.getElem!_eq_getElem?_getD]
          simp [this]
        have x1 := HI.out (2 * i) (by omega)
        have x2 := HI.out (2 * i + 1) (by omega)
        rw [ha] at x1
        rw [hb] at x2
        have x1' : ∀ W, (Instr.index 9 (.string (st s)) (.int .i64 (2 * (i : Int)))).run Tryz.prog W = .ok (.int .u8 (a.toNat : Int)) W := fun W => by have := x1 W; simpa [bval] using this
        have x2' : ∀ W, (Instr.index 9 (.string (st s)) (.int .i64 (2 * (i : Int) + 1))).run Tryz.prog W = .ok (.int .u8 (b.toNat : Int)) W := fun W => by have := x2 W; simpa [bval] using this
        rw [hab, pairs] at hp
        clear x1 x2 ha hb hab HI
        have hcur : Stp [] wr [] wr.drew := Stp.drew _ _
        by_cases hneg : hx a < 0 ∨ hx b < 0
        · have HV : Aside (pairs s = none) := by
            show pairs s = none
            rw [hp, if_pos hneg]
            rfl
          have Ka : Hid (∀ W, Calls Tryz.prog 70 #[.string ⟨#[48, 49, 50, 51, 52, 53, 54, 55, 56, 57, 97, 98, 99, 100, 101, 102]⟩, .int .u8 (a.toNat : Int)] W (Gives (.int .i64 (hx a)) W)) := Lib.hid fun W => KI.out W a
          have Kb : Hid (∀ W, Calls Tryz.prog 70 #[.string ⟨#[48, 49, 50, 51, 52, 53, 54, 55, 56, 57, 97, 98, 99, 100, 101, 102]⟩, .int .u8 (b.toNat : Int)] W (Gives (.int .i64 (hx b)) W)) := Lib.hid fun W => KI.out W b
          have HZ : Aside (Stp [] w [] wr) := hSt
          clear hp hB hSt HS H0 KI
          generalize hx a = za at *
          generalize hx b = zb at *
          have hneg2 : za < 0 ∨ (0 ≤ za ∧ zb < 0) := by omega
          clear hneg
          have hw1 : IntKind.i64.wrap (2 * (i : Int)) = 2 * (i : Int) := IntWalk.i64_in _ (by omega)
          have hw2 : IntKind.i64.wrap (2 * (i : Int) + 1) = 2 * (i : Int) + 1 := IntWalk.i64_in _ (by omega)
          rcases hneg2 with hneg | ⟨hnn, hneg⟩
          all_goals
            go_wp2_with fail
            go_region_held3 (fun W => Stp [] wr [] W)
              (first | exact hcur | assumption)
              (first
                | (go_at_call 70; refine (Ka.out _).mono ?_; rintro _ _ ⟨rfl, rfl⟩)
                | (go_at_call 70; refine (Kb.out _).mono ?_; rintro _ _ ⟨rfl, rfl⟩))
            all_goals
              go_wp2
              go_ret2
              exact ⟨HZ.out.trans (Stp.drew _ _), by rw [HU.out, HV.out]; rfl⟩
        · have l1 := hx_lt a
          have l2 := hx_lt b
          obtain ⟨u, hu⟩ := Int.eq_ofNat_of_zero_le (show 0 ≤ hx a by omega)
          obtain ⟨v, hv⟩ := Int.eq_ofNat_of_zero_le (show 0 ≤ hx b by omega)
          have Ka : Hid (∀ W, Calls Tryz.prog 70 #[.string ⟨#[48, 49, 50, 51, 52, 53, 54, 55, 56, 57, 97, 98, 99, 100, 101, 102]⟩, .int .u8 (a.toNat : Int)] W (Gives (.int .i64 (u : Int)) W)) := Lib.hid fun W => by rw [← hu]; exact KI.out W a
          have Kb : Hid (∀ W, Calls Tryz.prog 70 #[.string ⟨#[48, 49, 50, 51, 52, 53, 54, 55, 56, 57, 97, 98, 99, 100, 101, 102]⟩, .int .u8 (b.toNat : Int)] W (Gives (.int .i64 (v : Int)) W)) := Lib.hid fun W => by rw [← hv]; exact KI.out W b
          rw [if_neg hneg, hu, hv] at hp
          have hu16 : u < 16 := by omega
          have hv16 : v < 16 := by omega
          have hBl : i < (D ++ List.replicate (n - i) (0 : UInt8)).length := by simp; omega
          have c1 := hB.cell hBl
          have z1 := hB.fz i
          generalize bval ((D ++ List.replicate (n - i) (0 : UInt8))[i]!) = old at c1
          have HE : Aside (∃ D' : List UInt8, D'.length = i + 1 ∧ pairs s = (pairs (s.drop (2 * (i + 1)))).map (fun d => D' ++ d) ∧ Blk (wr.setCell ⟨w.heap.size, i, none⟩ (Value.int .u8 (bits BinOp.or IntKind.i64 ((u : Int) * 16) (v : Int) % 256))).drew w.heap.size (D' ++ List.replicate (n - (i + 1)) 0) ∧ Stp [] w [] (wr.setCell ⟨w.heap.size, i, none⟩ (Value.int .u8 (bits BinOp.or IntKind.i64 ((u : Int) * 16) (v : Int) % 256))).drew) := by
            refine ⟨D ++ [((u : Int) * 16 + (v : Int)).toNat.toUInt8], by simp [hD], ?_, ?_, ((hSt.fresh (Stp.setCell (F := [w.heap.size]) (a := ⟨w.heap.size, i, none⟩) wr _ (by simp)) (by simp)).none).trans (Stp.drew _ _)⟩
            · rw [hp, hdr]
              cases pairs r <;> simp
            · rw [or_val hu16 hv16]
              have := hB.set i (((u : Int) * 16 + (v : Int)).toNat.toUInt8)
              rw [show n - i = (n - (i + 1)) + 1 by omega, ← hD, set_mid, hD] at this
              exact this.other (Stp.drew [] _) (by simp)
          clear hneg l1 l2 hu hv KI HS H0 HU hB hp hSt hdr
          have hw1 : IntKind.i64.wrap (2 * (i : Int)) = 2 * (i : Int) := IntWalk.i64_in _ (by omega)
          have hw2 : IntKind.i64.wrap (2 * (i : Int) + 1) = 2 * (i : Int) + 1 := IntWalk.i64_in _ (by omega)
          go_wp2_with fail
          go_region_held3 (fun W => Stp [] wr [] W)
            (first | exact hcur | assumption)
            (first
              | (go_at_call 70; refine (Ka.out _).mono ?_; rintro _ _ ⟨rfl, rfl⟩)
              | (go_at_call 70; refine (Kb.out _).mono ?_; rintro _ _ ⟨rfl, rfl⟩))
          all_goals
            go_wp2
            go_roundg (n - (i + 1))
            case measure => omega
            case rel => exact ⟨i + 1, by go_num, by omega, by omega, HE.out⟩
      · have hltz : ¬ (i : Int) < (n : Int) := by omega
        obtain rfl : i = n := by omega
        have hdr : s.drop (2 * i) = [] := List.drop_eq_nil_of_le (by omega)
        have HE : Aside (unhex s = some D ∧ D.length = i ∧ Blk wr w.heap.size D ∧ Stp [] w [] wr) := by
          refine ⟨?_, hD, by simpa using hB, hSt⟩
          rw [HU.out, hp, hdr]
          simp [pairs]
        clear HS H0 HU hB hp hSt hdr hD
        go_wp2
        go_ret2
        refine ⟨HE.out.2.2.2, ?_⟩
        rw [HE.out.1]
        exact ⟨some ⟨w.heap.size, 0, none⟩, i, by rw [HE.out.2.1]; rfl, HE.out.2.2.1.bts, by rw [HE.out.2.1]; exact Nat.le_refl _, (fun h => by cases h), (fun ad h => by cases h; exact Nat.le_refl _)⟩
  · have HU : Aside (unhex s = none) := by
      show unhex s = none
      unfold unhex
      rw [if_neg h1, if_pos (.inr h3)]
    have hmod : (s.length : Int) % 2 = 1 := by omega
    have htm : Int.tmod (s.length : Int) 2 = 1 := by rw [Int.tmod_eq_emod_of_nonneg (by omega)]; exact hmod
    clear h3
    go_enter Tryz.func54, Tryz.ntmps54
    go_wp2
    go_ret2
    exact ⟨Stp.refl _ _, by rw [HU.out]; rfl⟩
end Go.Proofs.YthfiilhbgogoaaaGreatDoor
