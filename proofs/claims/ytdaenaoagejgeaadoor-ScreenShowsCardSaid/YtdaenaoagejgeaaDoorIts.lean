/-
  Rows of numbers of the call's own; the bytes of characters; the document's Next. (From editbuf's texts.)
-/
import Derived.Test.YtdaenaoagejgeaaDoorTell
import Derived.Test.YtdaenaoagejgeaaDoorURef2
import Derived.Deep.RegionLaw
import Derived.Deep.DrawnRows
namespace Go.Proofs.YtdaenaoagejgeaaDoor.U
open Go.RowKit Go.Lib
def ival (x : Nat) : Value := .int .i64 (x : Int)
def OwnI (w : World) (base : Nat) (v : Value) (l : List Nat) : Prop := w.ownsRow base 3 1 v l.length (l.map ival)
theorem int_info : (Tryd.prog.info? 3).map (fun i => (i.zero, i.size, i.bytes)) = some (some (.int .i64 0), 1, 8) := by kernel_rfl
end Go.Proofs.YtdaenaoagejgeaaDoor.U
namespace Go.Proofs.YtdaenaoagejgeaaDoor
open Go.RowKit Go.Lib
set_option linter.unusedVariables false

theorem own_of_U {w : World} {base : Nat} {v : Value} {l : List Nat} (h : U.Own w base v l) (hl : ∀ x ∈ l, x < 256) : Own w base v (l.map UInt8.ofNat) := by
  have e1 : (l.map UInt8.ofNat).map bval = l.map U.bval := by
    rw [List.map_map]
    refine List.map_congr_left (fun x hx => ?_)
    show Value.int .u8 (((UInt8.ofNat x).toNat : Nat) : Int) = Value.int .u8 (x : Int)
    rw [UInt8.toNat_ofNat', Nat.mod_eq_of_lt (hl x hx)]
  unfold Own
  rw [e1, List.length_map]
  exact h

/-! ### Numbers in a slice -/
/-- A slice's cells, as far as it is long, are these characters. -/
def Its (w : World) (a : Option Addr) (l : List Nat) : Prop := l ≠ [] → ∃ b off, a = some ⟨b, off, none⟩ ∧ ∀ i, i < l.length → w.cell? ⟨b, off + i, none⟩ = some (U.ival (l[i]!))
theorem Its.nil (w : World) (a : Option Addr) : Its w a [] := fun h => absurd rfl h
theorem Its.at {w : World} {a : Option Addr} {l : List Nat} (h : Its w a l) {i : Nat} (hi : i < l.length) : ∃ b off, a = some ⟨b, off, none⟩ ∧ w.cell? ⟨b, off + i, none⟩ = some (U.ival (l[i]!)) := by
  obtain ⟨b, off, h1, h2⟩ := h (by intro e; subst e; simp at hi)
  exact ⟨b, off, h1, h2 i hi⟩
theorem Its.other {w w' : World} {a : Option Addr} {l : List Nat} {F F' : List Nat} (h : Its w a l) (hs : Stp F w F' w') (hF : l ≠ [] → ∀ ad, a = some ad → ad.block ∉ F) : Its w' a l := fun hl => by
  obtain ⟨b, off, h1, h2⟩ := h hl
  have hb : b < w.heap.size := block_lt_of_cell (h2 0 (List.length_pos_iff.2 hl))
  exact ⟨b, off, h1, fun i hi => (hs.cell (a := ⟨b, off + i, none⟩) hb (hF hl ⟨b, off, none⟩ h1)).trans (h2 i hi)⟩
theorem Its.stays {w w' : World} {a : Option Addr} {l : List Nat} {F' : List Nat} (h : Its w a l) (hs : Stp [] w F' w') : Its w' a l := h.other hs (fun _ _ _ h => by cases h)
theorem Its.head {w : World} {a : Option Addr} {M M' : List Nat} (h : Its w a (M ++ M')) : Its w a M := fun hne => by
  obtain ⟨b, off, rfl, h2⟩ := h (by simp [hne])
  refine ⟨b, off, rfl, fun i hi => ?_⟩
  rw [h2 i (by simp; omega), getElem!_pos _ _ (by simp; omega), getElem!_pos M i hi, List.getElem_append_left hi]
theorem Its.tail {w : World} {a : Option Addr} {l : List Nat} (h : Its w a l) {i N : Nat} (hi : i ≤ l.length) (hN : l.length ≤ N) : Its w (cutp a i N) (l.drop i) := fun hl => by
  have h0 : 0 < (l.drop i).length := List.length_pos_iff.2 hl
  rw [List.length_drop] at h0
  obtain ⟨b, off, rfl, h2⟩ := h (by intro e; subst e; simp at h0)
  refine ⟨b, off + i, cutp_of (by omega), fun k hk => ?_⟩
  rw [List.length_drop] at hk
  rw [Nat.add_assoc, h2 (i + k) (by omega), getElem!_pos l (i + k) (by omega), getElem!_pos _ k (by rw [List.length_drop]; exact hk)]
  simp
theorem Its.cells {w : World} {ad : Addr} {l : List Nat} (h : Its w (some ad) l) : ∀ j u, (l.map U.ival)[j]? = some u → w.cell? (ad.add j) = some u := by
  intro j u hu
  have hj : j < l.length := by
    rcases Nat.lt_or_ge j l.length with e | e
    · exact e
    · rw [List.getElem?_eq_none (by simpa using e)] at hu
      cases hu
  have hne : l ≠ [] := by intro e; subst e; simp at hj
  obtain ⟨b, off, e, hc⟩ := h hne
  cases e
  rw [addr_add, hc j hj, getElem!_pos l j hj]
  rw [List.getElem?_map, List.getElem?_eq_getElem hj] at hu
  exact hu
theorem elemI : Tryd.prog.elem 39 = 3 := by kernel_rfl
theorem sizeI (w : World) : (sizeOf 3).run Tryd.prog w = .ok 1 w := by kernel_rfl
theorem undI : Tryd.prog.underlying 39 = some (.slice (Tryd.prog.elem 39)) := by kernel_rfl
theorem cutI_l (a : Option Addr) (n N i : Nat) (hi : i ≤ n) (w : World) :
    (Instr.slice 39 (.slice a n N) (some (.int .i64 (i : Int))) none none).run Tryd.prog w = .ok (.slice (cutp a i N) (n - i) (N - i)) w := by
  rw [run_slice_l (P := Tryd.prog) w _ a n N undI .i64 i (by omega) (by omega), elemI, sizeI]
  simp [Result.andThen, sliced, cutp]
theorem cutI_h (a : Option Addr) (n N j : Nat) (hj : j ≤ N) (w : World) :
    (Instr.slice 39 (.slice a n N) none (some (.int .i64 (j : Int))) none).run Tryd.prog w = .ok (.slice a j N) w := by
  rw [run_slice_h (P := Tryd.prog) w _ a n N undI .i64 j (by omega) (by omega), elemI, sizeI]
  rcases a with _ | ⟨b, off, sp⟩ <;> simp [Result.andThen, sliced, Addr.add]
theorem ival_one (l : List Nat) : ∀ v ∈ l.map U.ival, v.oneCell' = true := by
  intro u hu
  simp only [List.mem_map] at hu
  obtain ⟨x, _, rfl⟩ := hu
  rfl
theorem run_appN {w : World} {base : Nat} {v : Value} {xs : List Nat} (ty : TypeId) (hown : U.OwnI w base v xs) {A : Option Addr} {c : Nat} {l : List Nat} (hl : Its w A l) (hA : A = none → c = 0)
    (h63 : xs.length + l.length ≤ 1000000) (hbase : base ≤ w.heap.size) :
    ∃ v' w', (Builtin.append_ #[39, 39] ty #[v, .slice A l.length c]).run Tryd.prog w = .ok v' w' ∧ U.OwnI w' base v' (xs ++ l) ∧ w.grownBy w' v.ownBlock ∧ (v'.ownBlock = v.ownBlock ∨ v'.ownBlock = some w.heap.size) := by
  obtain ⟨i0, hi0, hz0, hz1, hz2⟩ := info_parts U.int_info
  rcases A with _ | ad
  · obtain rfl := hA rfl
    have : l = [] := by
      rcases Classical.em (l = []) with e | e
      · exact e
      · obtain ⟨b, off, h, _⟩ := hl e
        cases h
    subst this
    refine ⟨v, w, run_append_owned_none (P := Tryd.prog) (w := w) base _ ty _ i0 1 Tryd.underlying39 hi0 v _ _ hown, ?_, World.grownBy.refl w _, .inl rfl⟩
    simpa [U.OwnI] using hown
  · obtain ⟨v', w', hrun, h2, h3, _, h5⟩ := run_append_own_at (P := Tryd.prog) w base _ ty _ i0 _ 1 8 Tryd.underlying39 hi0 hz0 hz1 hz2 rfl (by omega) v _ _ hown ad l.length c (l.map U.ival) (by simp) hl.cells
      (ival_one l) (by unfold maxLen; omega) (by omega) hbase
    refine ⟨v', w', hrun, ?_, h3, h5⟩
    unfold U.OwnI
    rw [List.map_append, List.length_append]
    exact h2
/-- An append at a step of a region that draws its order. -/
theorem step_appN {w : World} {ops : Array Oper} {o : Oper} {a : Act} {K : Act → World → Prop} {Q : Exit → Act → World → Prop} {E : Prop} (hgd : o.guard = none) (s x : Operand)
    (ho : o.op = .call { callee := .builtin .append, args := #[s, x], argTypes := #[39, 39] }) (base : Nat) (v : Value) (xs : List Nat) (hs : a.eval s = v) (hown : U.OwnI w base v xs)
    (A : Option Addr) (c n : Nat) (l : List Nat) (hn : n = l.length) (hx : a.eval x = .slice A n c) (hl : Its w A l) (hA : A = none → c = 0) (h63 : xs.length + l.length ≤ 1000000) (hbase : base ≤ w.heap.size)
    (h : ∀ v' w', U.OwnI w' base v' (xs ++ l) → w.grownBy w' v.ownBlock → K (a.put o.dst v') w') :
    if Region.wanted o (yielded ops a.tmps) = true then Oper.wp Tryd.prog o a w K Q else E := by
  have hw : Region.wanted o (yielded ops a.tmps) = true := by simp [Region.wanted, hgd]
  rw [if_pos hw]
  subst hn
  obtain ⟨v', w', hrun, h2, h3, h4⟩ := run_appN o.type hown hl hA h63 hbase
  unfold Oper.wp execOp
  simp only [ho, resolve, invoke, builtin, Sem.run_bind, Sem.run_pure, Result.andThen_ok, List.map_toArray, List.map_cons, List.map_nil, hs, hx, hrun]
  exact h v' w' h2 h3
theorem wpList_appN {w : World} {ops : Array Oper} {rest : List Oper} {o : Oper} {a : Act} {Q : Exit → Act → World → Prop} (hgd : o.guard = none) (s x : Operand)
    (ho : o.op = .call { callee := .builtin .append, args := #[s, x], argTypes := #[39, 39] }) (base : Nat) (v : Value) (xs : List Nat) (hs : a.eval s = v) (hown : U.OwnI w base v xs)
    (A : Option Addr) (c n : Nat) (l : List Nat) (hn : n = l.length) (hx : a.eval x = .slice A n c) (hl : Its w A l) (hA : A = none → c = 0) (h63 : xs.length + l.length ≤ 1000000) (hbase : base ≤ w.heap.size)
    (h : ∀ v' w', U.OwnI w' base v' (xs ++ l) → w.grownBy w' v.ownBlock → wpList Tryd.prog ops Q rest (a.put o.dst v') w') : wpList Tryd.prog ops Q (o :: rest) a w := by
  subst hn
  refine wpList_plain hgd fun K hK => ?_
  obtain ⟨v', w', hrun, h2, h3, h4⟩ := run_appN o.type hown hl hA h63 hbase
  unfold Oper.wp execOp
  simp only [ho, resolve, invoke, builtin, Sem.run_bind, Sem.run_pure, Result.andThen_ok, List.map_toArray, List.map_cons, List.map_nil, hs, hx, hrun]
  exact hK _ _ (h v' w' h2 h3)
theorem OwnI.new (w : World) : U.OwnI (w.alloc (.cells #[] 3)) w.heap.size (.slice (some ⟨w.heap.size, 0, none⟩) 0 0) [] :=
  ⟨by simp, .inr ⟨w.heap.size, 0, #[], rfl, Nat.le_refl _, heap_alloc_new w _, by simp, by simp [maxLen], by simp, by simp⟩⟩
theorem OwnI.one (w : World) (c : Nat) : U.OwnI (w.alloc (.cells #[.int .i64 (c : Int)] 3)) w.heap.size (.slice (some ⟨w.heap.size, 0, none⟩) 1 1) [c] :=
  ⟨by simp, .inr ⟨w.heap.size, 1, #[.int .i64 (c : Int)], rfl, Nat.le_refl _, heap_alloc_new w _, by simp, by simp [maxLen], by simp, by simp [U.ival]⟩⟩
theorem OwnI.its {w : World} {base : Nat} {v : Value} {l : List Nat} (h : U.OwnI w base v l) : ∃ a cap, v = .slice a l.length cap ∧ Its w a l ∧ (a = none → cap = 0) ∧ l.length ≤ cap ∧ ∀ ad, a = some ad → base ≤ ad.block ∧ ad.block < w.heap.size := by
  rcases h.2 with ⟨rfl, h0⟩ | ⟨g, cap, cur, rfl, hg, hh, hnc, hm, hcur, htake⟩
  · have : l = [] := List.length_eq_zero_iff.1 h0
    subst this
    exact ⟨none, 0, rfl, Its.nil _ _, fun _ => rfl, Nat.le_refl _, fun ad h => by cases h⟩
  · refine ⟨some ⟨g, 0, none⟩, cap, rfl, fun _ => ⟨g, 0, rfl, fun i hi => ?_⟩, (fun h => by cases h), hnc, fun ad h => by cases h; exact ⟨hg, (Array.getElem?_eq_some_iff.1 hh).1⟩⟩
    have h1 := cell_of_row w g (0 + i) cur _ _ hh
    rw [h1]
    have h2 := congrArg (·[i]?) htake
    simp only [Nat.mul_one, List.getElem?_take, hi, if_true, List.getElem?_map] at h2
    rw [Nat.zero_add, ← Array.getElem?_toList, h2, getElem!_pos l i hi]
    simp [hi]
theorem OwnI.other {w w' : World} {base : Nat} {v : Value} {l : List Nat} {G G' : List Nat} (h : U.OwnI w base v l) (hs : Stp G w G' w') (hG : ∀ k, v.ownBlock = some k → k ∉ G) : U.OwnI w' base v l := by
  refine ⟨h.1, ?_⟩
  rcases h.2 with hn | ⟨g, cap, cur, rfl, hb, hgg, rest⟩
  · exact .inl hn
  · exact .inr ⟨g, cap, cur, rfl, hb, (hs.block g (Array.getElem?_eq_some_iff.1 hgg).1 (hG g rfl)).trans hgg, rest⟩
theorem OwnI.mono {w : World} {base base' : Nat} {v : Value} {l : List Nat} (h : U.OwnI w base v l) (hb : base' ≤ base) : U.OwnI w base' v l := by
  refine ⟨h.1, ?_⟩
  rcases h.2 with hn | ⟨g, cap, cur, rfl, hg, rest⟩
  · exact .inl hn
  · exact .inr ⟨g, cap, cur, rfl, by omega, rest⟩
theorem fl_len_le4 (A : List Nat) : (fl A).length ≤ 4 * A.length := by
  induction A with
  | nil => simp [fl]
  | cons c A ih =>
    rw [fl_cons, List.length_append, List.length_cons]
    have := (enc8_len c).2
    omega
set_option maxHeartbeats 1000000 in
set_option maxRecDepth 100000 in
theorem rbytes_run (a : Option Addr) (n c : Nat) (l : List Nat) (w : World) (h : Its w a l) (hn : n = l.length) (hl : n ≤ 4096) (hp : Pr l) :
    Calls Tryd.prog 39 #[.slice a n c] w fun e w' => ∃ v, e = .returned v ∧ Own w' w.heap.size v (fl l) ∧ Stp [] w [] w' := by
  have H := Lib.hid (And.intro h (And.intro hn hp))
  clear h hn hp
  go_enter Tryd.func39, Tryd.ntmps39
  go_wp2_with fail
  go_loopg [3, 4] n (fun gk v3 vi wr => ∃ (i : Nat) (ao : Option Addr) (no co : Nat), vi = .int .i64 (i : Int) ∧ v3 = .slice ao no co ∧ i ≤ n ∧ n - i ≤ gk ∧ Aside (Stp [] w [] wr ∧ Own wr w.heap.size (.slice ao no co) (fl (l.take i))))
  case atStart => exact ⟨0, none, 0, 0, rfl, rfl, Nat.zero_le _, by omega, Stp.refl _ _, Own.nil _ _⟩
  case round =>
    obtain ⟨i, ao, no, co, rfl, rfl, hi, hg, HS⟩ := hrel
    by_cases hlt : i < n
    · have hltz : (i : Int) < (n : Int) := by omega
      have hil : i < l.length := by rw [← H.out.2.1]; exact hlt
      obtain ⟨lb, off, rfl, c0⟩ := (H.out.1.stays HS.out.1).at hil
      unfold U.ival at c0
      have hst : fl (l.take (i + 1)) = fl (l.take i) ++ enc8 (l[i]!) := by
        rw [List.take_succ_eq_append_getElem hil, getElem!_pos l i hil, fl_app, fl_one]
      have hpr : U.prB ((l[i]! : Nat) : Int) = true := H.out.2.2 _ (by rw [getElem!_pos l i hil]; exact List.getElem_mem hil)
      have hlen : (fl (l.take i)).length ≤ 4 * 4096 := by
        have h1 := fl_len_le4 (l.take i)
        have h2 := H.out.2.1
        simp at h1
        omega
      have HX := Lib.hid (And.intro hst (And.intro hpr (And.intro hlen hlt)))
      generalize l[i]! = x at *
      clear hst hpr hlen hlt hil
      have hx1 := (pr_ch HX.out.2.1).2
      have KU := Lib.hid (fun W => U.rput_any x W hx1)
      clear hx1
      go_wp2_with (first
        | (go_at_call 55
           refine (KU.out _).mono ?_
           rintro _ w1 ⟨v1, rfl, ho1, hb1⟩
           have ho1 := own_of_U ho1 (U.enc_lt x (pr_ch HX.out.2.1).2)
           rw [show (U.enc x).map UInt8.ofNat = enc8 x from rfl] at ho1
           obtain ⟨a5, c5, rfl, hbt5, hz5, _, _⟩ := ho1.bts
           have s1 := Stp.of_below hb1
           have H1 := Lib.hid (And.intro (HS.out.1.trans s1) (And.intro (HS.out.2.other s1 (fun k _ h => by cases h)) (And.intro hbt5 hz5)))
           clear ho1 hb1 hbt5 hz5 s1)
        | (at_builtin
           refine wpList_app rfl (.tmp 11) (.tmp 16) rfl w.heap.size (.slice ao no co) (fl (l.take i)) rfl H1.out.2.1 a5 c5 (enc8 x).length (enc8 x) rfl rfl H1.out.2.2.1 H1.out.2.2.2 (by have h1 := HX.out.2.2.1; have h2 := (enc8_len x).2; omega) H1.out.1.size ?_
           intro v6 w6 ho6 hg6
           have H6 : Aside (Stp [] w [] w6 ∧ Own w6 w.heap.size v6 (fl (l.take i) ++ enc8 x)) := ⟨H1.out.1.app hg6 (fun k hk => (H1.out.2.1.lt k hk).1), ho6⟩
           clear ho6 hg6))
      go_roundg (n - (i + 1))
      case measure => have := HX.out.2.2.2; omega
      case rel =>
        obtain ⟨a7, c7, e7, _⟩ := H6.out.2.bts
        refine ⟨i + 1, a7, _, c7, by go_num, e7, by have := HX.out.2.2.2; omega, by omega, H6.out.1, ?_⟩
        rw [HX.out.1, ← e7]
        exact H6.out.2
    · have hltz : ¬ (i : Int) < (n : Int) := by omega
      have hl2 : l.take i = l := List.take_of_length_le (by have := H.out.2.1; omega)
      have HS2 : Aside (Stp [] w [] wr ∧ Own wr w.heap.size (.slice ao no co) (fl l)) := by
        have := HS.out
        rw [hl2] at this
        exact this
      clear HS hl2
      go_wp2
      go_ret
      exact ⟨_, rfl, HS2.out.2, HS2.out.1⟩
/-- The document's Next at bytes. -/
theorem rnext8 (a : Option Addr) (n cap : Nat) (l : List UInt8) (w : World) (h : Bts w a l) (hn : n = l.length) (hm : n ≤ 9223372036854775807) : Calls Tryd.prog 33 #[.slice a n cap] w fun e w' => e = .returned (.tuple #[.int .i64 (nx8 l).1, .int .i64 (nx8 l).2.1, .int .i64 (nx8 l).2.2]) ∧ Stp [] w [] w' := by
  have := U.ref_any a cap (l.map UInt8.toNat) w (bts_to_U h) (by simp; omega)
  rw [List.length_map, ← hn] at this
  exact this.mono fun e w' ⟨h1, h2⟩ => ⟨h1, Stp.of_below h2⟩
end Go.Proofs.YtdaenaoagejgeaaDoor
