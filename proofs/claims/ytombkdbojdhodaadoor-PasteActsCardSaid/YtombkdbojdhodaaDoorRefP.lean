/-
  The document's stage in memory, and its calls.
-/
import Derived.Test.YtombkdbojdhodaaDoorRefL
import Derived.Test.YtombkdbojdhodaaDoorStg3
import Derived.Deep.RegionHeld3
namespace Go.Proofs.YtombkdbojdhodaaDoor
open Go.RowKit Go.Lib
set_option linter.unusedVariables false

/-- The document's stage at x: a slice of characters; their cells lie in no block of F. -/
structure Tc (F : List Nat) (W : World) (x N : Nat) (pa : Option Addr) (ca : Nat) (t : Sv) : Prop where
  obj : W.heap[x]? = some (.cells #[.slice pa t.X.length ca, .int .i64 (N : Int), .bool t.bg, .bool t.ov] 33 (0, 0))
  ia : Its W pa t.X
  na : pa = none → ca = 0
  xa : ∀ ad, pa = some ad → ad.block ∉ F ∧ ad.block < W.heap.size
  xF : x ∈ F
  lo : ∀ k ∈ F, k < W.heap.size
  pr : Pr t.X
  fit : (fl t.X).length ≤ N ∧ N ≤ 4096
  inv : t.bg = false → t.X = [] ∧ t.ov = false
section
variable {F G G' : List Nat} {W W' : World} {x N ca : Nat} {pa : Option Addr} {t : Sv}
theorem Tc.lt (h : Tc F W x N pa ca t) : x < W.heap.size := h.lo x h.xF
theorem Tc.c0 (h : Tc F W x N pa ca t) : W.cell? ⟨x, 0, none⟩ = some (.slice pa t.X.length ca) := by rw [cell_of_row W x 0 _ _ _ h.obj]; rfl
theorem Tc.c1 (h : Tc F W x N pa ca t) : W.cell? ⟨x, 1, none⟩ = some (.int .i64 (N : Int)) := by rw [cell_of_row W x 1 _ _ _ h.obj]; rfl
theorem Tc.c2 (h : Tc F W x N pa ca t) : W.cell? ⟨x, 2, none⟩ = some (.bool t.bg) := by rw [cell_of_row W x 2 _ _ _ h.obj]; rfl
theorem Tc.c3 (h : Tc F W x N pa ca t) : W.cell? ⟨x, 3, none⟩ = some (.bool t.ov) := by rw [cell_of_row W x 3 _ _ _ h.obj]; rfl
theorem Tc.fz (h : Tc F W x N pa ca t) (i : Nat) : W.frozen? ⟨x, i, none⟩ = false := frozen_of_row W x i _ _ h.obj
theorem Tc.len (h : Tc F W x N pa ca t) : t.X.length ≤ 4096 := by have h1 := fl_len_ge t.X; have h2 := h.fit; omega
theorem Tc.other (h : Tc F W x N pa ca t) (hs : Stp G W G' W') (hG : ∀ k ∈ G, k ∈ F) (hx : x ∉ G) : Tc F W' x N pa ca t :=
  ⟨(hs.block x h.lt hx).trans h.obj, h.ia.other hs (fun _ ad e g => (h.xa ad e).1 (hG _ g)), h.na, (fun ad e => ⟨(h.xa ad e).1, Nat.lt_of_lt_of_le (h.xa ad e).2 hs.size⟩), h.xF, (fun k hk => Nat.lt_of_lt_of_le (h.lo k hk) hs.size), h.pr, h.fit, h.inv⟩
theorem Tc.stays (h : Tc F W x N pa ca t) (hs : Stp [] W G' W') : Tc F W' x N pa ca t := h.other hs (fun k h => by cases h) (fun h => by cases h)
/-- Another object there. -/
theorem Tc.turn {pa2 : Option Addr} {ca2 : Nat} {t2 : Sv} (h : Tc F W x N pa ca t) (hs : Stp [x] W [x] W') (ho : W'.heap[x]? = some (.cells #[.slice pa2 t2.X.length ca2, .int .i64 (N : Int), .bool t2.bg, .bool t2.ov] 33 (0, 0)))
    (hi : Its W pa2 t2.X) (hn : pa2 = none → ca2 = 0) (hx : ∀ ad, pa2 = some ad → ad.block ∉ F ∧ ad.block < W.heap.size) (hp : Pr t2.X) (hf : (fl t2.X).length ≤ N) (hv : t2.bg = false → t2.X = [] ∧ t2.ov = false) : Tc F W' x N pa2 ca2 t2 :=
  ⟨ho, hi.other hs (fun _ ad e g => (hx ad e).1 (by rw [List.mem_singleton.1 g]; exact h.xF)), hn, (fun ad e => ⟨(hx ad e).1, Nat.lt_of_lt_of_le (hx ad e).2 hs.size⟩), h.xF, (fun k hk => Nat.lt_of_lt_of_le (h.lo k hk) hs.size), hp, ⟨hf, h.fit.2⟩, hv⟩
end
/-- The document's stage. -/
def Tx (F : List Nat) (W : World) (x N : Nat) (t : Sv) : Prop := ∃ pa ca, Tc F W x N pa ca t
theorem Tx.other {F G G' : List Nat} {W W' : World} {x N : Nat} {t : Sv} (h : Tx F W x N t) (hs : Stp G W G' W') (hG : ∀ k ∈ G, k ∈ F) (hx : x ∉ G) : Tx F W' x N t := by
  obtain ⟨pa, ca, h⟩ := h
  exact ⟨pa, ca, h.other hs hG hx⟩
theorem Tx.stays {F G' : List Nat} {W W' : World} {x N : Nat} {t : Sv} (h : Tx F W x N t) (hs : Stp [] W G' W') : Tx F W' x N t := h.other hs (fun k h => by cases h) (fun h => by cases h)
/-- What a call of the document's leaves. -/
def TDid (F : List Nat) (x N : Nat) (r : Int × Sv) (W : World) (en : Ending) (w' : World) : Prop := en = .returned (.int .i64 r.1) ∧ Tx F w' x N r.2 ∧ Stp [x] W [x] w'
section
variable {F : List Nat} {W : World} {x N ca : Nat} {pa : Option Addr} {t : Sv}
theorem rstart_run (h : Tc F W x N pa ca t) : Calls Tryd.prog 12 #[.pointer (some ⟨x, 0, none⟩)] W (TDid F x N (stS t) W) := by
  have c2 := h.c2
  have f2 := h.fz 2
  obtain ⟨X, bg, ov⟩ := t
  dsimp only at c2
  have H := Lib.hid h
  clear h
  cases bg with
  | true =>
    go_enter Tryd.func12, Tryd.ntmps12
    go_wp2
    go_ret
    exact ⟨rfl, ⟨_, _, H.out⟩, Stp.refl _ _⟩
  | false =>
    go_enter Tryd.func12, Tryd.ntmps12
    go_wp2
    go_ret
    have h := H.out
    have hs : Stp [x] W [x] (W.setCell ⟨x, 2, none⟩ (.bool true)) := Stp.setCell (F := [x]) (a := ⟨x, 2, none⟩) W _ (by simp)
    exact ⟨rfl, ⟨pa, ca, h.turn (t2 := ⟨X, true, ov⟩) hs (heap_setCell_same W x 2 _ _ _ h.obj) h.ia h.na h.xa h.pr h.fit.1 (fun h => by cases h)⟩, hs⟩
/-- What Drop leaves. -/
def TDropped (F : List Nat) (x N : Nat) (W : World) (en : Ending) (w' : World) : Prop := en = .returned (.tuple #[]) ∧ Tx F w' x N sv0 ∧ Stp [x] W [x] w'
theorem rdrop_run (h : Tc F W x N pa ca t) : Calls Tryd.prog 18 #[.pointer (some ⟨x, 0, none⟩)] W (TDropped F x N W) := by
  have c0 := h.c0
  have f0 := h.fz 0
  have o1 := heap_setCell_same W x 0 _ _ (.slice none 0 0) h.obj
  have o2 := heap_setCell_same _ x 2 _ _ (.bool false) o1
  have o3 := heap_setCell_same _ x 3 _ _ (.bool false) o2
  have c2 : (W.setCell ⟨x, 0, none⟩ (.slice none 0 0)).cell? ⟨x, 2, none⟩ = some (.bool t.bg) := by rw [cell_of_row _ x 2 _ _ _ o1]; rfl
  have f2 : (W.setCell ⟨x, 0, none⟩ (.slice none 0 0)).frozen? ⟨x, 2, none⟩ = false := frozen_of_row _ x 2 _ _ o1
  have c3 : ((W.setCell ⟨x, 0, none⟩ (.slice none 0 0)).setCell ⟨x, 2, none⟩ (.bool false)).cell? ⟨x, 3, none⟩ = some (.bool t.ov) := by rw [cell_of_row _ x 3 _ _ _ o2]; rfl
  have f3 : ((W.setCell ⟨x, 0, none⟩ (.slice none 0 0)).setCell ⟨x, 2, none⟩ (.bool false)).frozen? ⟨x, 3, none⟩ = false := frozen_of_row _ x 3 _ _ o2
  have hs : Stp [x] W [x] (((W.setCell ⟨x, 0, none⟩ (.slice none 0 0)).setCell ⟨x, 2, none⟩ (.bool false)).setCell ⟨x, 3, none⟩ (.bool false)) :=
    ((Stp.setCell (F := [x]) (a := ⟨x, 0, none⟩) W _ (by simp)).trans (Stp.setCell (F := [x]) (a := ⟨x, 2, none⟩) _ _ (by simp))).trans (Stp.setCell (F := [x]) (a := ⟨x, 3, none⟩) _ _ (by simp))
  have HH : Aside (Tx F (((W.setCell ⟨x, 0, none⟩ (.slice none 0 0)).setCell ⟨x, 2, none⟩ (.bool false)).setCell ⟨x, 3, none⟩ (.bool false)) x N sv0) :=
    ⟨none, 0, h.turn (t2 := sv0) hs o3 (Its.nil _ _) (fun _ => rfl) (fun ad e => by cases e) Pr.nil (Nat.zero_le _) (fun _ => ⟨rfl, rfl⟩)⟩
  have HS := Lib.hid hs
  clear h o1 o2 o3 hs
  go_enter Tryd.func18, Tryd.ntmps18
  go_wp2
  go_end0
  exact ⟨rfl, HH.out, HS.out⟩
end
end Go.Proofs.YtombkdbojdhodaaDoor
