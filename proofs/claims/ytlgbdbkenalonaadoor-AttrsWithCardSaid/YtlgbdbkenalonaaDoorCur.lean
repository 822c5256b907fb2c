/-
  Where a call stands beside blocks that are made in a drawn order.
-/
import Derived.Test.YtlgbdbkenalonaaDoorAlive
import Derived.Test.YtlgbdbkenalonaaDoorHp
import Derived.Deep.RegionHeld3
import Derived.Deep.DeepCutAuto
import Derived.Deep.RegionWith
import Derived.Deep.CutBlock
namespace Go.Proofs.YtlgbdbkenalonaaDoor
open Go.RowKit Go.Lib
set_option linter.unusedVariables false

theorem At3.pair (W : World) (a b c a' b' c' : Nat) : At3 ((W.alloc (.cells #[.int .u32 (a : Int), .int .u8 (b : Int), .int .u8 (c : Int)] 24)).alloc (.cells #[.int .u32 (a' : Int), .int .u8 (b' : Int), .int .u8 (c' : Int)] 24)) W.heap.size a b c ∧
    At3 ((W.alloc (.cells #[.int .u32 (a : Int), .int .u8 (b : Int), .int .u8 (c : Int)] 24)).alloc (.cells #[.int .u32 (a' : Int), .int .u8 (b' : Int), .int .u8 (c' : Int)] 24)) (W.heap.size + 1) a' b' c' :=
  ⟨(At3.new W a b c).stays (Stp.alloc [] _ _), heap_alloc2_new W _ _⟩

/-- Where a call stands: the blocks that were made beside it, still noughts. -/
structure Cur (w0 W : World) (G : List Nat) : Prop where
  stp : Stp [] w0 [] W
  all : ∀ g ∈ G, w0.heap.size ≤ g ∧ At3 W g 0 0 0
  nd : G.Nodup
theorem Cur.call {w0 W W' : World} {G : List Nat} (h : Cur w0 W G) (s : Stp [] W [] W') : Cur w0 W' G := ⟨h.stp.trans s, fun g hg => ⟨(h.all g hg).1, (h.all g hg).2.stays s⟩, h.nd⟩
theorem Cur.new {w0 W : World} {G : List Nat} (h : Cur w0 W G) : Cur w0 (W.alloc (.cells #[.int .u32 0, .int .u8 0, .int .u8 0] 24)) (W.heap.size :: G) := by
  refine ⟨h.stp.trans (Stp.alloc [] _ _), fun g hg => ?_, List.nodup_cons.2 ⟨fun hm => by have := (h.all _ hm).2.lt; omega, h.nd⟩⟩
  rcases List.mem_cons.1 hg with rfl | hg
  · exact ⟨h.stp.size, At3.new W 0 0 0⟩
  · exact ⟨(h.all g hg).1, (h.all g hg).2.stays (Stp.alloc [] _ _)⟩
theorem Cur.new2 {w0 W : World} {G : List Nat} (h : Cur w0 W G) : Cur w0 ((W.alloc (.cells #[.int .u32 0, .int .u8 0, .int .u8 0] 24)).alloc (.cells #[.int .u32 0, .int .u8 0, .int .u8 0] 24)) ((W.heap.size + 1) :: W.heap.size :: G) := by
  have := h.new.new
  rw [World.size_alloc] at this
  exact this
/-- One block of them is written. -/
theorem Cur.put {w0 W : World} {G : List Nat} (h : Cur w0 W G) {g : Nat} (hg : g ∈ G) (a b c : Value) : Stp [] w0 [] (((W.setCell ⟨g, 0, none⟩ a).setCell ⟨g, 1, none⟩ b).setCell ⟨g, 2, none⟩ c) :=
  (h.stp.fresh (At3.stp _ _ _ _ _) (by simp; exact (h.all g hg).1)).none
theorem Cur.put2 {w0 W : World} {G : List Nat} (h : Cur w0 W G) {g g' : Nat} (hg : g ∈ G) (hg' : g' ∈ G) (a b c a' b' c' : Value) :
    Stp [] w0 [] (((((((W.setCell ⟨g, 0, none⟩ a).setCell ⟨g, 1, none⟩ b).setCell ⟨g, 2, none⟩ c).setCell ⟨g', 0, none⟩ a').setCell ⟨g', 1, none⟩ b').setCell ⟨g', 2, none⟩ c')) :=
  ((h.put hg a b c).fresh (At3.stp _ _ _ _ _) (by simp; exact (h.all g' hg').1)).none
theorem set3_size (W : World) (g : Nat) (a b c : Value) : (((W.setCell ⟨g, 0, none⟩ a).setCell ⟨g, 1, none⟩ b).setCell ⟨g, 2, none⟩ c).heap.size = W.heap.size := by simp [World.setCell]
theorem At3.newS (W : World) (g : Nat) (a b c : Value) (f m t : Nat) : At3 ((((W.setCell ⟨g, 0, none⟩ a).setCell ⟨g, 1, none⟩ b).setCell ⟨g, 2, none⟩ c).alloc (.cells #[.int .u32 (f : Int), .int .u8 (m : Int), .int .u8 (t : Int)] 24)) W.heap.size f m t := by
  have := At3.new (((W.setCell ⟨g, 0, none⟩ a).setCell ⟨g, 1, none⟩ b).setCell ⟨g, 2, none⟩ c) f m t
  rw [set3_size] at this
  exact this
theorem At3.other {W W' : World} {g g' f m t : Nat} (h : At3 W g f m t) (hs : Stp [g'] W [g'] W') (hne : g ≠ g') : At3 W' g f m t := (hs.block g h.lt (by simpa using hne)).trans h

theorem Cur.ne {w0 W : World} {a b : Nat} {G : List Nat} (h : Cur w0 W (a :: b :: G)) : ¬ a = b ∧ ¬ b = a := by
  have h1 := List.nodup_cons.1 h.nd
  exact ⟨fun e => h1.1 (by simp [e]), fun e => h1.1 (by simp [e])⟩

section
variable {w0 W : World} {G : List Nat} {g g' : Nat} (x y m t : Nat)
theorem Cur.e1 (h : Cur w0 W G) : At3 ((W.alloc (.cells #[.int .u32 (x : Int), .int .u8 (m : Int), .int .u8 (t : Int)] 24)).alloc (.cells #[.int .u32 (y : Int), .int .u8 (m : Int), .int .u8 (t : Int)] 24)) W.heap.size x m t ∧ At3 ((W.alloc (.cells #[.int .u32 (x : Int), .int .u8 (m : Int), .int .u8 (t : Int)] 24)).alloc (.cells #[.int .u32 (y : Int), .int .u8 (m : Int), .int .u8 (t : Int)] 24)) (W.heap.size + 1) y m t ∧ Stp [] w0 [] ((W.alloc (.cells #[.int .u32 (x : Int), .int .u8 (m : Int), .int .u8 (t : Int)] 24)).alloc (.cells #[.int .u32 (y : Int), .int .u8 (m : Int), .int .u8 (t : Int)] 24)) :=
  ⟨(At3.pair _ _ _ _ _ _ _).1, (At3.pair _ _ _ _ _ _ _).2, (h.stp.trans (Stp.alloc [] _ _)).trans (Stp.alloc [] _ _)⟩
theorem Cur.e2 (h : Cur w0 W G) : At3 ((W.alloc (.cells #[.int .u32 (y : Int), .int .u8 (m : Int), .int .u8 (t : Int)] 24)).alloc (.cells #[.int .u32 (x : Int), .int .u8 (m : Int), .int .u8 (t : Int)] 24)) (W.heap.size + 1) x m t ∧ At3 ((W.alloc (.cells #[.int .u32 (y : Int), .int .u8 (m : Int), .int .u8 (t : Int)] 24)).alloc (.cells #[.int .u32 (x : Int), .int .u8 (m : Int), .int .u8 (t : Int)] 24)) W.heap.size y m t ∧ Stp [] w0 [] ((W.alloc (.cells #[.int .u32 (y : Int), .int .u8 (m : Int), .int .u8 (t : Int)] 24)).alloc (.cells #[.int .u32 (x : Int), .int .u8 (m : Int), .int .u8 (t : Int)] 24)) :=
  ⟨(At3.pair _ _ _ _ _ _ _).2, (At3.pair _ _ _ _ _ _ _).1, (h.stp.trans (Stp.alloc [] _ _)).trans (Stp.alloc [] _ _)⟩
theorem Cur.e3 (h : Cur w0 W G) (hg : g ∈ G) : At3 ((((W.setCell ⟨g, 0, none⟩ (.int .u32 (x : Int))).setCell ⟨g, 1, none⟩ (.int .u8 (m : Int))).setCell ⟨g, 2, none⟩ (.int .u8 (t : Int))).alloc (.cells #[.int .u32 (y : Int), .int .u8 (m : Int), .int .u8 (t : Int)] 24)) g x m t ∧ At3 ((((W.setCell ⟨g, 0, none⟩ (.int .u32 (x : Int))).setCell ⟨g, 1, none⟩ (.int .u8 (m : Int))).setCell ⟨g, 2, none⟩ (.int .u8 (t : Int))).alloc (.cells #[.int .u32 (y : Int), .int .u8 (m : Int), .int .u8 (t : Int)] 24)) W.heap.size y m t ∧ Stp [] w0 [] ((((W.setCell ⟨g, 0, none⟩ (.int .u32 (x : Int))).setCell ⟨g, 1, none⟩ (.int .u8 (m : Int))).setCell ⟨g, 2, none⟩ (.int .u8 (t : Int))).alloc (.cells #[.int .u32 (y : Int), .int .u8 (m : Int), .int .u8 (t : Int)] 24)) :=
  ⟨((h.all _ hg).2.set x m t).stays (Stp.alloc [] _ _), At3.newS _ _ _ _ _ _ _ _, (h.put hg _ _ _).trans (Stp.alloc [] _ _)⟩
theorem Cur.e4 (h : Cur w0 W G) (hg : g ∈ G) : At3 ((((W.setCell ⟨g, 0, none⟩ (.int .u32 (y : Int))).setCell ⟨g, 1, none⟩ (.int .u8 (m : Int))).setCell ⟨g, 2, none⟩ (.int .u8 (t : Int))).alloc (.cells #[.int .u32 (x : Int), .int .u8 (m : Int), .int .u8 (t : Int)] 24)) W.heap.size x m t ∧ At3 ((((W.setCell ⟨g, 0, none⟩ (.int .u32 (y : Int))).setCell ⟨g, 1, none⟩ (.int .u8 (m : Int))).setCell ⟨g, 2, none⟩ (.int .u8 (t : Int))).alloc (.cells #[.int .u32 (x : Int), .int .u8 (m : Int), .int .u8 (t : Int)] 24)) g y m t ∧ Stp [] w0 [] ((((W.setCell ⟨g, 0, none⟩ (.int .u32 (y : Int))).setCell ⟨g, 1, none⟩ (.int .u8 (m : Int))).setCell ⟨g, 2, none⟩ (.int .u8 (t : Int))).alloc (.cells #[.int .u32 (x : Int), .int .u8 (m : Int), .int .u8 (t : Int)] 24)) :=
  ⟨At3.newS _ _ _ _ _ _ _ _, ((h.all _ hg).2.set y m t).stays (Stp.alloc [] _ _), (h.put hg _ _ _).trans (Stp.alloc [] _ _)⟩
theorem Cur.e5 (h : Cur w0 W G) (hg : g ∈ G) (hg' : g' ∈ G) (hne : ¬ g = g') : At3 ((((((W.setCell ⟨g, 0, none⟩ (.int .u32 (x : Int))).setCell ⟨g, 1, none⟩ (.int .u8 (m : Int))).setCell ⟨g, 2, none⟩ (.int .u8 (t : Int))).setCell ⟨g', 0, none⟩ (.int .u32 (y : Int))).setCell ⟨g', 1, none⟩ (.int .u8 (m : Int))).setCell ⟨g', 2, none⟩ (.int .u8 (t : Int))) g x m t ∧ At3 ((((((W.setCell ⟨g, 0, none⟩ (.int .u32 (x : Int))).setCell ⟨g, 1, none⟩ (.int .u8 (m : Int))).setCell ⟨g, 2, none⟩ (.int .u8 (t : Int))).setCell ⟨g', 0, none⟩ (.int .u32 (y : Int))).setCell ⟨g', 1, none⟩ (.int .u8 (m : Int))).setCell ⟨g', 2, none⟩ (.int .u8 (t : Int))) g' y m t ∧ Stp [] w0 [] ((((((W.setCell ⟨g, 0, none⟩ (.int .u32 (x : Int))).setCell ⟨g, 1, none⟩ (.int .u8 (m : Int))).setCell ⟨g, 2, none⟩ (.int .u8 (t : Int))).setCell ⟨g', 0, none⟩ (.int .u32 (y : Int))).setCell ⟨g', 1, none⟩ (.int .u8 (m : Int))).setCell ⟨g', 2, none⟩ (.int .u8 (t : Int))) :=
  ⟨((h.all _ hg).2.set x m t).other (At3.stp _ _ _ _ _) hne, At3.set (At3.other (h.all _ hg').2 (At3.stp _ _ _ _ _) (fun e => hne e.symm)) y m t, h.put2 hg hg' _ _ _ _ _ _⟩
end
end Go.Proofs.YtlgbdbkenalonaaDoor
