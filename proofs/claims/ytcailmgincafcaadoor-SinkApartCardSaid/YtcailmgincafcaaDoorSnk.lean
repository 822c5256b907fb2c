/-
  The sink in memory: a block that bytes may be laid into; what a buffer's Copy lays there; New, Deliver, Given, Room.
-/
import Derived.Test.YtcailmgincafcaaDoorBufI
namespace Go.Proofs.YtcailmgincafcaaDoor
open Go.RowKit Go.Lib
set_option linter.unusedVariables false

/-- A block whose first cells hold the bytes T, and may be turned. -/
structure Dst (W : World) (k : Nat) (T : List UInt8) : Prop where
  lt : k < W.heap.size
  cell : ∀ i, i < T.length → W.cell? ⟨k, i, none⟩ = some (bval (T[i]!))
  fz : ∀ i, i < T.length → W.frozen? ⟨k, i, none⟩ = false
section
variable {W W' : World} {k : Nat} {T : List UInt8}
theorem Dst.other {F F' : List Nat} (h : Dst W k T) (hs : Stp F W F' W') (hF : k ∉ F) : Dst W' k T :=
  ⟨Nat.lt_of_lt_of_le h.lt hs.size, fun i hi => (hs.cell (a := ⟨k, i, none⟩) h.lt hF).trans (h.cell i hi), fun i hi => (World.frozen?_of_block (a := ⟨k, i, none⟩) (hs.block k h.lt hF)).trans (h.fz i hi)⟩
theorem Dst.stays {F : List Nat} (h : Dst W k T) (hs : Stp [] W F W') : Dst W' k T := h.other hs (fun h => by cases h)
theorem Dst.bts (h : Dst W k T) : Bts W (some ⟨k, 0, none⟩) T := fun _ => ⟨k, 0, rfl, fun i hi => by rw [Nat.zero_add]; exact h.cell i hi⟩
theorem Dst.front (h : Dst W k T) (n : Nat) : Bts W (some ⟨k, 0, none⟩) (T.take n) := Bts.head (M' := T.drop n) (by rw [List.take_append_drop]; exact h.bts)
theorem Blk.dst (h : Blk W k T) : Dst W k T := ⟨h.lt, fun i hi => h.cell hi, fun i hi => h.fz i⟩
theorem Own.dst {base : Nat} {v : Value} {l : List UInt8} (h : Own W base v l) (hk : v.ownBlock = some k) : ∃ cap, v = .slice (some ⟨k, 0, none⟩) l.length cap ∧ base ≤ k ∧ l.length ≤ cap ∧ Dst W k l := by
  obtain ⟨a, cap, e, hb, _, hc, _⟩ := h.bts
  rcases h.2 with ⟨rfl, h0⟩ | ⟨g, cap2, cur, rfl, hg, hh, _⟩
  · cases hk
  · obtain rfl : g = k := by simpa [Value.ownBlock] using hk
    injection e with e1 e2 e3
    subst e1
    subst e3
    refine ⟨cap2, rfl, hg, hc, (Array.getElem?_eq_some_iff.1 hh).1, fun i hi => ?_, fun i hi => frozen_of_row W g i _ _ hh⟩
    obtain ⟨b, off, e, h2⟩ := hb.at hi
    injection e with e
    injection e with e1 e2
    subst e1
    subst e2
    rwa [Nat.zero_add] at h2
theorem Dst.lay (h : Dst W k T) {l : List UInt8} (hl : l.length ≤ T.length) : Dst (W.setCells k 0 (l.map bval)) k (lay T 0 l) := by
  have hz : (Go.Proofs.YtcailmgincafcaaDoor.lay T 0 l).length = T.length := lay_length (by omega)
  refine ⟨Nat.lt_of_lt_of_le h.lt (setCells_other k _ 0 W).size, fun i hi => ?_, fun i hi => ?_⟩
  · have hi2 := hi
    rw [hz] at hi2
    by_cases hil : i < l.length
    · have := World.cell?_setCells_in k (l.map bval) 0 W (fun j hj => by rw [Nat.zero_add, h.cell j (by simp at hj; omega)]; rfl) i (by simpa using hil)
      rw [Nat.zero_add] at this
      rw [this, getElem!_pos (Go.Proofs.YtcailmgincafcaaDoor.lay T 0 l) i hi]
      simp [Go.Proofs.YtcailmgincafcaaDoor.lay, List.getElem_append_left hil]
    · rw [World.cell?_setCells_out k _ 0 W _ (fun _ _ => .inr (by simp; omega)), h.cell i hi2, getElem!_pos (Go.Proofs.YtcailmgincafcaaDoor.lay T 0 l) i hi, getElem!_pos T i hi2]
      simp only [Go.Proofs.YtcailmgincafcaaDoor.lay, List.take_zero, List.nil_append, Nat.zero_add]
      rw [List.getElem_append_right (by omega)]
      simp only [List.getElem_drop]
      congr 3
      omega
  · rw [World.frozen?_setCells]
    exact h.fz i (by omega)
theorem lay_take (l : List UInt8) (T : List UInt8) (h : l.length ≤ T.length) : (lay T 0 l).take l.length = l := by simp [lay]
theorem lay_all (l T : List UInt8) : lay T 0 l = l ++ T.drop l.length := by simp [lay]
theorem copy_dst {n c sL sC : Nat} {sp : Option Addr} {l : List UInt8} (ty : TypeId) (hD : Dst W k T) (hs : Bts W sp l) (hn : l.length = min sL n) (hf : l.length ≤ T.length) :
    ∃ w', (Builtin.copy_ #[22, 22] ty #[.slice (some ⟨k, 0, none⟩) n c, .slice sp sL sC]).run Tryd.prog W = .ok (.int .i64 (l.length : Int)) w' ∧ Dst w' k (lay T 0 l) ∧ Stp [k] W [k] w' := by
  by_cases hl : l = []
  · subst hl
    refine ⟨W, ?_, by rw [lay_nil]; exact hD, Stp.refl _ _⟩
    exact run_copy_none (P := Tryd.prog) W _ _ ty _ _ sp n c sL sC Tryd.underlying22 info8 (show min sL n = 0 by simpa using hn.symm)
  · obtain ⟨b, o, rfl, _⟩ := hs hl
    have hrun := run_copy_cells (P := Tryd.prog) W 22 22 ty 5 k 0 n c ⟨b, o, none⟩ sL sC (l.map bval) Tryd.underlying22 info8 (by rw [List.length_map]; exact hn) hs.cells
      (fun j hj => by rw [Nat.zero_add, hD.cell j (by simp at hj; omega)]; rfl) (fun j hj => by rw [Nat.zero_add]; exact hD.fz j (by simp at hj; omega)) (map_bval_one l)
    rw [List.length_map] at hrun
    exact ⟨_, hrun, hD.lay hf, setCells_other k _ 0 W⟩
end
section
variable {W : World} {b g N : Nat} {l : List UInt8}
/-- Bytes laid into a block of which the first n cells are handed in. -/
theorem copyD_run (h : Ar W b g N l) (k n c : Nat) (T : List UInt8) (hD : Dst W k T) (hT : n ≤ T.length) (hk : k ≠ g) : Calls Tryd.prog 23 #[.pointer (some ⟨b, 0, none⟩), .slice (some ⟨k, 0, none⟩) n c] W
    fun e w' => e = .returned (.int .i64 ((min l.length n : Nat) : Int)) ∧ Dst w' k (lay T 0 (l.take n)) ∧ Stp [k] W [k] w' := by
  have c0 := h.c0
  have c1 := h.c1
  have hu := h.le
  have s1 := cut_h (some ⟨g, 0, none⟩) N N l.length hu
  obtain ⟨w1, hr1, hB1, hs1⟩ := copy_dst (W := W.drew) (n := n) (c := c) (sL := l.length) (sC := N) (sp := some ⟨g, 0, none⟩) (l := l.take n) 3 (hD.stays (Stp.drew [] W))
    (by
      have := (Ar.stays h (Stp.drew [] W)).row.bts
      unfold pad at this
      exact (show Bts _ _ (l.take n) from Bts.head (M' := l.drop n) (by rw [List.take_append_drop]; exact this.head)))
    (by rw [List.length_take]; omega) (by rw [List.length_take]; omega)
  rw [List.length_take, Nat.min_comm] at hr1
  have H1 := Lib.hid (And.intro hB1 hs1)
  clear h hD hT hB1 hs1
  go_enter Tryd.func23, Tryd.ntmps23
  go_wp2_with fail
  go_region
  go_wp2
  go_ret
  exact ⟨rfl, H1.out.1, (Stp.drew _ _).trans H1.out.2⟩
end
section
variable {W : World} {e b g N : Nat} {A B : List Nat}
theorem bcopyD_run (h : Bu W e b g N A B) (k n c : Nat) (T : List UInt8) (hD : Dst W k T) (hT : n ≤ T.length) (hk : k ≠ g) : Calls Tryd.prog 17 #[.pointer (some ⟨e, 0, none⟩), .slice (some ⟨k, 0, none⟩) n c] W
    fun en w' => en = .returned (.int .i64 ((min (fl (A ++ B)).length n : Nat) : Int)) ∧ Dst w' k (lay T 0 ((fl (A ++ B)).take n)) ∧ Stp [k] W [k] w' := by
  have K1 := Lib.hid (copyD_run h.ar k n c T hD hT hk)
  have c0 := h.c0
  clear h
  generalize min (fl (A ++ B)).length n = m at *
  go_enter Tryd.func17, Tryd.ntmps17
  go_wp2_with fail
  refine K1.out.mono ?_
  rintro _ w1 ⟨rfl, h1, h2⟩
  have H := Lib.hid (And.intro h1 h2)
  clear h1 h2
  go_wp2
  go_ret
  exact ⟨rfl, H.out.1, H.out.2⟩
end

/-! ### The sink -/
/-- A sink of the first n bytes of a block. -/
structure Sk (W : World) (s k n x : Nat) (gv : Bool) (T : List UInt8) : Prop where
  obj : W.heap[s]? = some (.cells #[.slice (some ⟨k, 0, none⟩) n n, .int .i64 (x : Int), .bool gv] 47 (0, 0))
  dst : Dst W k T
  le : n ≤ T.length
  ne : s ≠ k
section
variable {W W' : World} {s k n x : Nat} {gv : Bool} {T : List UInt8}
theorem Sk.c0 (h : Sk W s k n x gv T) : W.cell? ⟨s, 0, none⟩ = some (.slice (some ⟨k, 0, none⟩) n n) := by rw [cell_of_row W s 0 _ _ _ h.obj]; rfl
theorem Sk.c1 (h : Sk W s k n x gv T) : W.cell? ⟨s, 1, none⟩ = some (.int .i64 (x : Int)) := by rw [cell_of_row W s 1 _ _ _ h.obj]; rfl
theorem Sk.c2 (h : Sk W s k n x gv T) : W.cell? ⟨s, 2, none⟩ = some (.bool gv) := by rw [cell_of_row W s 2 _ _ _ h.obj]; rfl
theorem Sk.f (h : Sk W s k n x gv T) (i : Nat) : W.frozen? ⟨s, i, none⟩ = false := frozen_of_row W s i _ _ h.obj
theorem Sk.lt (h : Sk W s k n x gv T) : s < W.heap.size := (Array.getElem?_eq_some_iff.1 h.obj).1
theorem Sk.other {F F' : List Nat} (h : Sk W s k n x gv T) (hs : Stp F W F' W') (h1 : s ∉ F) (h2 : k ∉ F) : Sk W' s k n x gv T := ⟨(hs.block s h.lt h1).trans h.obj, h.dst.other hs h2, h.le, h.ne⟩
theorem Sk.stays {F : List Nat} (h : Sk W s k n x gv T) (hs : Stp [] W F W') : Sk W' s k n x gv T := h.other hs (fun h => by cases h) (fun h => by cases h)

theorem cut_hm (a : Option Addr) (n N : Nat) (hn : n ≤ N) (w : World) :
    (Instr.slice 22 (.slice a n N) none (some (.int .i64 (n : Int))) (some (.int .i64 (n : Int)))).run Tryd.prog w = .ok (.slice a n n) w := by
  rw [run_slice_hm (P := Tryd.prog) w _ a n N und8 .i64 .i64 n n (by omega) (by omega) (by omega), elem8, size8]
  rcases a with _ | ⟨b, off, sp⟩ <;> simp [Result.andThen, sliced, Addr.add]
theorem snew_run {cap : Nat} (hD : Dst W k T) (hn : n ≤ T.length) (hc : n ≤ cap) : Calls Tryd.prog 9 #[.slice (some ⟨k, 0, none⟩) n cap] W
    fun en w' => ∃ s, en = .returned (.pointer (some ⟨s, 0, none⟩)) ∧ W.heap.size ≤ s ∧ Sk w' s k n 0 false T ∧ Stp [] W [] w' := by
  have s1 := cut_hm (some ⟨k, 0, none⟩) n cap hc
  have H := Lib.hid (And.intro hD hn)
  clear hD hn
  go_enter Tryd.func9, Tryd.ntmps9
  go_wp2
  go_ret
  exact ⟨W.heap.size, rfl, Nat.le_refl _, ⟨heap_alloc_new W _, H.out.1.stays (Stp.alloc [] W _), H.out.2, by have := H.out.1.lt; omega⟩, Stp.alloc [] W _⟩
theorem given_nil (W : World) : Calls Tryd.prog 15 #[.pointer none] W (Gives (.tuple #[.int .i64 0, .bool false]) W) := by
  go_enter Tryd.func15, Tryd.ntmps15
  go_wp2
  go_ret2
  exact ⟨rfl, rfl⟩
theorem given_run (h : Sk W s k n x gv T) : Calls Tryd.prog 15 #[.pointer (some ⟨s, 0, none⟩)] W (Tells (.tuple #[.int .i64 (x : Int), .bool gv]) W) := by
  have c1 := h.c1
  have c2 := h.c2
  clear h
  go_enter Tryd.func15, Tryd.ntmps15
  go_wp2_with fail
  go_quiet (fail)
  go_wp2
  go_ret2
  exact ⟨rfl, Stp.drewN [] W _⟩
theorem room_nil (W : World) : Calls Tryd.prog 10 #[.pointer none] W (Gives (.int .i64 0) W) := by
  go_enter Tryd.func10, Tryd.ntmps10
  go_wp2
  go_ret
  exact ⟨rfl, rfl⟩
theorem room_run (h : Sk W s k n x gv T) : Calls Tryd.prog 10 #[.pointer (some ⟨s, 0, none⟩)] W (Gives (.int .i64 (n : Int)) W) := by
  have c0 := h.c0
  clear h
  go_enter Tryd.func10, Tryd.ntmps10
  go_wp2
  go_ret
  exact ⟨rfl, rfl⟩
theorem dl_nil (v : Value) (W : World) : Calls Tryd.prog 11 #[.pointer none, v] W (Gives (.tuple #[.int .i64 0, .int .i64 1]) W) := by
  go_enter Tryd.func11, Tryd.ntmps11
  go_wp2
  go_ret2
  exact ⟨rfl, rfl⟩
theorem dl_none (s : Nat) (W : World) : Calls Tryd.prog 11 #[.pointer (some ⟨s, 0, none⟩), .pointer none] W (Gives (.tuple #[.int .i64 0, .int .i64 1]) W) := by
  go_enter Tryd.func11, Tryd.ntmps11
  go_wp2
  go_ret2
  exact ⟨rfl, rfl⟩
theorem dl_given (h : Sk W s k n x true T) (e : Nat) : Calls Tryd.prog 11 #[.pointer (some ⟨s, 0, none⟩), .pointer (some ⟨e, 0, none⟩)] W (Gives (.tuple #[.int .i64 0, .int .i64 11]) W) := by
  have c2 := h.c2
  clear h
  go_enter Tryd.func11, Tryd.ntmps11
  go_wp2
  go_ret2
  exact ⟨rfl, rfl⟩
section
variable {e b g N : Nat} {A B : List Nat}
theorem len_quiet (hb : Bu W e b g N A B) {m : Nat} (hm : m = (fl (A ++ B)).length) : ∀ q, Calls Tryd.prog 16 #[.pointer (some ⟨e, 0, none⟩)] (W.drewN q) fun en w' => en = .returned (.int .i64 (m : Int)) ∧ ∃ r, w' = W.drewN r := fun q => by
  subst hm
  exact (blen_run (hb.drewN q)).mono fun _ _ ⟨h1, h2⟩ => ⟨h1, q, h2⟩
theorem dl_small (h : Sk W s k n x false T) (hb : Bu W e b g N A B) (hlt : n < (fl (A ++ B)).length) : Calls Tryd.prog 11 #[.pointer (some ⟨s, 0, none⟩), .pointer (some ⟨e, 0, none⟩)] W (Tells (.tuple #[.int .i64 0, .int .i64 12]) W) := by
  have c0 := h.c0
  have c2 := h.c2
  obtain ⟨m, hm⟩ : ∃ m, m = (fl (A ++ B)).length := ⟨_, rfl⟩
  have K1 := Lib.hid (len_quiet hb hm)
  rw [← hm] at hlt
  have hltz : (n : Int) < (m : Int) := by omega
  clear h hb hlt hm
  go_enter Tryd.func11, Tryd.ntmps11
  go_wp2_with fail
  go_quiet ((go_at_call 16; exact K1.out _))
  go_wp2
  go_ret2
  exact ⟨rfl, Stp.drewN [] W _⟩
theorem dl_ok (h : Sk W s k n x false T) (hb : Bu W e b g N A B) (hle : (fl (A ++ B)).length ≤ n) (hk : k ≠ g) : Calls Tryd.prog 11 #[.pointer (some ⟨s, 0, none⟩), .pointer (some ⟨e, 0, none⟩)] W
    fun en w' => en = .returned (.tuple #[.int .i64 ((fl (A ++ B)).length : Int), .int .i64 0]) ∧ Sk w' s k n (fl (A ++ B)).length true (lay T 0 (fl (A ++ B))) ∧ Stp [s, k] W [s, k] w' := by
  obtain ⟨l, hl⟩ : ∃ l, l = fl (A ++ B) := ⟨_, rfl⟩
  obtain ⟨m, hm⟩ : ∃ m, m = l.length := ⟨_, rfl⟩
  have K1 := Lib.hid (len_quiet hb (hm.trans (by rw [hl])))
  have K2 : ∀ q, Calls Tryd.prog 17 #[.pointer (some ⟨e, 0, none⟩), .slice (some ⟨k, 0, none⟩) n n] (W.drewN q)
      fun en w' => en = .returned (.int .i64 (m : Int)) ∧ Dst w' k (lay T 0 l) ∧ Stp [k] W [k] w' := fun q => by
    have K2 := bcopyD_run (hb.drewN q) k n n T (h.dst.stays (Stp.drewN [] W q)) h.le hk
    rw [List.take_of_length_le hle, Nat.min_eq_left hle, ← hl, ← hm] at K2
    exact K2.mono fun _ _ ⟨h1, h2, h3⟩ => ⟨h1, h2, (Stp.drewN [k] W q).trans h3⟩
  have K2 := Lib.hid K2
  rw [← hl, ← hm] at hle ⊢
  have c0 := h.c0
  have c2 := h.c2
  have hltz : ¬ (n : Int) < (m : Int) := by omega
  have H := Lib.hid (And.intro h (And.intro hm hle))
  clear h hb hle hl hm hk
  go_enter Tryd.func11, Tryd.ntmps11
  go_wp2_with fail
  go_quiet ((go_at_call 16; exact K1.out _))
  go_wp2_with fail
  refine (K2.out nq).mono ?_
  rintro _ w1 ⟨rfl, h1, h2⟩
  have o1 : w1.heap[s]? = some (.cells #[.slice (some ⟨k, 0, none⟩) n n, .int .i64 (x : Int), .bool false] 47 (0, 0)) := (h2.block s H.out.1.lt (by simpa using H.out.1.ne)).trans H.out.1.obj
  have d1 : w1.cell? ⟨s, 1, none⟩ = some (.int .i64 (x : Int)) := by rw [cell_of_row w1 s 1 _ _ _ o1]; rfl
  have d2 : w1.cell? ⟨s, 2, none⟩ = some (.bool false) := by rw [cell_of_row w1 s 2 _ _ _ o1]; rfl
  have f1 : w1.frozen? ⟨s, 1, none⟩ = false := frozen_of_row w1 s 1 _ _ o1
  have f2 : w1.frozen? ⟨s, 2, none⟩ = false := frozen_of_row w1 s 2 _ _ o1
  have H1 := Lib.hid (And.intro o1 (And.intro h1 h2))
  clear o1 h1 h2 c0 c2 K1 K2
  go_wp2
  go_ret2
  obtain ⟨o1, h1, h2⟩ := H1.out
  have s1 : Stp [s] w1 [s] (w1.setCell ⟨s, 1, none⟩ (.int .i64 (m : Int))) := Stp.setCell (F := [s]) (a := ⟨s, 1, none⟩) w1 _ (by simp)
  have s2 : Stp [s] (w1.setCell ⟨s, 1, none⟩ (.int .i64 (m : Int))) [s] ((w1.setCell ⟨s, 1, none⟩ (.int .i64 (m : Int))).setCell ⟨s, 2, none⟩ (.bool true)) := Stp.setCell (F := [s]) (a := ⟨s, 2, none⟩) _ _ (by simp)
  have hne : k ∉ [s] := by simpa using H.out.1.ne.symm
  refine ⟨rfl, ⟨?_, (h1.other s1 hne).other s2 hne, ?_, H.out.1.ne⟩, (h2.more (fun k hk => by simp at hk; simp [hk])).trans ((s1.trans s2).more (fun k hk => by simp at hk; simp [hk]))⟩
  · have := heap_setCell_same _ s 2 _ _ (.bool true) (heap_setCell_same w1 s 1 _ _ (.int .i64 (m : Int)) o1)
    exact this
  · rw [lay_length (by have := H.out.1.le; have := H.out.2; omega)]
    exact H.out.1.le
end
end
end Go.Proofs.YtcailmgincafcaaDoor
