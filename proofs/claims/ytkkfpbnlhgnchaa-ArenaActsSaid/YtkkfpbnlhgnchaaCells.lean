/-
  Rows of bytes of the call's own; cells, size; and the document's example.
-/
import Derived.Test.YtkkfpbnlhgnchaaText
namespace Go.Proofs.Ytkkfpbnlhgnchaa
open Go.RowKit Go.Lib
set_option linter.unusedVariables false

/-- A row of bytes that the call itself has made from block number 'base' on. -/
def Own (w : World) (base : Nat) (v : Value) (l : List UInt8) : Prop := w.ownsRow base 5 1 v l.length (l.map bval)
theorem Own.bts {w : World} {base : Nat} {v : Value} {l : List UInt8} (h : Own w base v l) : ∃ a cap, v = .slice a l.length cap ∧ Bts w a l ∧ (a = none → cap = 0) ∧ l.length ≤ cap ∧ ∀ ad, a = some ad → base ≤ ad.block ∧ ad.block < w.heap.size := by
  rcases h.2 with ⟨rfl, h0⟩ | ⟨g, cap, cur, rfl, hg, hh, hnc, hm, hcur, htake⟩
  · have : l = [] := List.length_eq_zero_iff.1 h0
    subst this
    exact ⟨none, 0, rfl, Bts.nil _ _, fun _ => rfl, Nat.le_refl _, fun ad h => by cases h⟩
  · refine ⟨some ⟨g, 0, none⟩, cap, rfl, fun _ => ⟨g, 0, rfl, fun i hi => ?_⟩, (fun h => by cases h), hnc, fun ad h => by cases h; exact ⟨hg, (Array.getElem?_eq_some_iff.1 hh).1⟩⟩
    have h1 := cell_of_row w g (0 + i) cur _ _ hh
    rw [h1]
    have h2 := congrArg (·[i]?) htake
    simp only [Nat.mul_one, List.getElem?_take, hi, if_true, List.getElem?_map] at h2
    rw [Nat.zero_add, ← Array.getElem?_toList, h2, getElem!_pos l i hi]
    simp [hi]
theorem Own.nil (w : World) (base : Nat) : Own w base (.slice none 0 0) [] := World.ownsRow_nil _ _ _ _
theorem Own.new (w : World) : Own (w.alloc (.cells #[] 5)) w.heap.size (.slice (some ⟨w.heap.size, 0, none⟩) 0 0) [] :=
  ⟨by simp, .inr ⟨w.heap.size, 0, #[], rfl, Nat.le_refl _, heap_alloc_new w _, by simp, by simp, by simp, by simp⟩⟩
theorem Own.lt {w : World} {base : Nat} {v : Value} {l : List UInt8} (h : Own w base v l) : ∀ k, v.ownBlock = some k → base ≤ k ∧ k < w.heap.size := World.ownsRow.lt h
theorem Own.other {w w' : World} {base : Nat} {v : Value} {l : List UInt8} {G G' : List Nat} (h : Own w base v l) (hs : Stp G w G' w') (hG : ∀ k, v.ownBlock = some k → k ∉ G) : Own w' base v l := by
  refine ⟨h.1, ?_⟩
  rcases h.2 with hn | ⟨g, cap, cur, rfl, hb, hgg, rest⟩
  · exact .inl hn
  · exact .inr ⟨g, cap, cur, rfl, hb, (hs.block g (Array.getElem?_eq_some_iff.1 hgg).1 (hG g rfl)).trans hgg, rest⟩
theorem run_app {w : World} {base : Nat} {v : Value} {xs : List UInt8} (ty : TypeId) (hown : Own w base v xs) {A : Option Addr} {c : Nat} {l : List UInt8} (hl : Bts w A l) (hA : A = none → c = 0)
    (h63 : xs.length + l.length ≤ 1000000) (hbase : base ≤ w.heap.size) :
    ∃ v' w', (Builtin.append_ #[31, 31] ty #[v, .slice A l.length c]).run Try.prog w = .ok v' w' ∧ Own w' base v' (xs ++ l) ∧ w.grownBy w' v.ownBlock ∧ (v'.ownBlock = v.ownBlock ∨ v'.ownBlock = some w.heap.size) := by
  obtain ⟨i0, hi0, hz0, hz1, hz2⟩ := info_parts byte_info
  rcases A with _ | ad
  · obtain rfl := hA rfl
    have : l = [] := by
      rcases Classical.em (l = []) with e | e
      · exact e
      · obtain ⟨b, off, h, _⟩ := hl e
        cases h
    subst this
    refine ⟨v, w, run_append_owned_none (P := Try.prog) (w := w) base _ ty _ i0 1 Try.underlying31 hi0 v _ _ hown, ?_, World.grownBy.refl w _, .inl rfl⟩
    simpa [Own] using hown
  · obtain ⟨v', w', hrun, h2, h3, _, h5⟩ := run_append_own_at (P := Try.prog) w base _ ty _ i0 _ 1 1 Try.underlying31 hi0 hz0 hz1 hz2 rfl (by omega) v _ _ hown ad l.length c (l.map bval) (by simp) hl.cells
      (map_bval_one l) (by unfold maxLen; omega) (by omega) hbase
    refine ⟨v', w', hrun, ?_, h3, h5⟩
    unfold Own
    rw [List.map_append, List.length_append]
    exact h2
theorem wpList_app {w : World} {ops : Array Oper} {rest : List Oper} {o : Oper} {a : Act} {Q : Exit → Act → World → Prop} (hgd : o.guard = none) (s x : Operand)
    (ho : o.op = .call { callee := .builtin .append, args := #[s, x], argTypes := #[31, 31] }) (base : Nat) (v : Value) (xs : List UInt8) (hs : a.eval s = v) (hown : Own w base v xs)
    (A : Option Addr) (c n : Nat) (l : List UInt8) (hn : n = l.length) (hx : a.eval x = .slice A n c) (hl : Bts w A l) (hA : A = none → c = 0) (h63 : xs.length + l.length ≤ 1000000) (hbase : base ≤ w.heap.size)
    (h : ∀ v' w', Own w' base v' (xs ++ l) → w.grownBy w' v.ownBlock → wpList Try.prog ops Q rest (a.put o.dst v') w') : wpList Try.prog ops Q (o :: rest) a w := by
  subst hn
  refine wpList_plain hgd fun K hK => ?_
  obtain ⟨v', w', hrun, h2, h3, h4⟩ := run_app o.type hown hl hA h63 hbase
  unfold Oper.wp execOp
  simp only [ho, resolve, invoke, builtin, Sem.run_bind, Sem.run_pure, Result.andThen_ok, List.map_toArray, List.map_cons, List.map_nil, hs, hx, hrun]
  exact hK _ _ (h v' w' h2 h3)
/-- What an append to a row that is new since w leaves. -/
theorem Stp.app {w W W' : World} {F : List Nat} {v : Value} (h : Stp [] w F W) (hg : W.grownBy W' v.ownBlock) (hv : ∀ k, v.ownBlock = some k → w.heap.size ≤ k) : Stp [] w F W' :=
  ⟨hg.os.trans h.os, hg.tape.trans h.tape, hg.output.trans h.output, Nat.le_trans h.size hg.size, fun k hk hF => (hg.block k (Nat.lt_of_lt_of_le hk h.size) (fun e => by have := hv k e.symm; omega)).trans (h.block k hk hF), h.foot⟩
theorem one_new (w : World) (x : UInt8) : Bts (w.alloc (.cells #[bval x] 5)) (some ⟨w.heap.size, 0, none⟩) [x] :=
  Blk.bts (C := [x]) (by unfold Blk; rw [heap_alloc_new]; rfl)

section
variable {W : World} {b g N : Nat} {l : List UInt8}
theorem cells_run (h : Ar W b g N l) : Calls Try.prog 30 #[.pointer (some ⟨b, 0, none⟩)] W (Texts (pad N l) W) := by
  have K1 := Lib.hid (cap_cl h)
  have hmn : ∀ (w : World) (ts : Array TypeId) (t : TypeId), (Builtin.min_ ts t #[.int .i64 (N : Int), .int .i64 4096]).run Try.prog w = .ok (.int .i64 (N : Int)) w := min_nat N 4096 h.top
  have ht := h.top
  have H := Lib.hid h
  clear h
  go_enter Try.func30, Try.ntmps30
  go_wp2_with fail
  refine K1.out.mono ?_
  rintro _ W ⟨rfl, rfl⟩
  clear K1
  go_wp2
  clear hmn
  go_loopg [3, 10] N (fun gk v vi wr => ∃ k : Nat, vi = .int .i64 (k : Int) ∧ k ≤ N ∧ N - k ≤ gk ∧ Aside (Own wr W.heap.size v ((pad N l).take k) ∧ Stp [] W [] wr))
  case atStart => exact ⟨0, rfl, by omega, by omega, Own.nil _ _, Stp.refl _ _⟩
  case round =>
    obtain ⟨k, rfl, hk, hg, HS⟩ := hrel
    by_cases hlt : k < N
    · have hltz : (k : Int) < (N : Int) := by omega
      have K := Lib.hid (cell_run (H.out.stays HS.out.2) k hlt)
      obtain ⟨x, hx⟩ : ∃ x, x = (pad N l)[k]! := ⟨_, rfl⟩
      rw [← hx] at K
      have HX : Aside ((pad N l).take (k + 1) = (pad N l).take k ++ [x]) := by
        have hkp : k < (pad N l).length := by rw [H.out.len]; exact hlt
        show _ = _
        rw [List.take_succ_eq_append_getElem hkp, hx, getElem!_pos _ k hkp]
      have hsz := HS.out.2.size
      have HB := Lib.hid (one_new wr x)
      clear hx
      unfold bval at HB K
      generalize ((x.toNat : Nat) : Int) = z at *
      go_wp2_with fail
      refine K.out.mono ?_
      rintro _ wr ⟨rfl, rfl⟩
      clear K
      go_wp2_with (first
        | (at_builtin
           refine wpList_app rfl (.tmp 19) (.tmp 21) rfl W.heap.size u3 ((pad N l).take k) rfl (World.ownsRow.alloc HS.out.1 _) (some ⟨wr.heap.size, 0, none⟩) 1 1 [x] rfl rfl HB.out (fun h => by cases h) (by have := H.out.len; simp; omega) (by rw [World.size_alloc]; omega) ?_
           intro v2 w2 ho2 hg2
           have H2 : Aside (Own w2 W.heap.size v2 ((pad N l).take (k + 1)) ∧ Stp [] W [] w2) := ⟨by rw [HX.out]; exact ho2, (HS.out.2.trans (Stp.alloc [] _ _)).app hg2 (fun q hq => (HS.out.1.lt q hq).1)⟩
           clear ho2 hg2))
      go_roundg (N - (k + 1))
      case measure => omega
      case rel => exact ⟨k + 1, by go_num, by omega, by omega, H2⟩
    · have hltz : ¬ (k : Int) < (N : Int) := by omega
      obtain rfl : k = N := by omega
      obtain ⟨ho, hs⟩ := HS.out
      rw [List.take_of_length_le (by rw [H.out.len]; exact Nat.le_refl _)] at ho
      obtain ⟨a, cap, hv, hb, _⟩ := ho.bts
      have cv := conv_bts cap (pad k l).length hb rfl
      have H2 := Lib.hid hs
      clear ho hb hs HS
      subst hv
      go_wp2
      go_ret
      exact ⟨rfl, H2.out⟩
end

/-- How many cells there are. -/
def sizeN (n : Int) : Nat := 1 + (n % 18446744073709551616 % 300).toNat
theorem sizeN_bounds (n : Int) : 1 ≤ sizeN n ∧ sizeN n ≤ 300 := by unfold sizeN; omega
theorem size_run (n : Int) (w : World) : Calls Try.prog 10 #[.int .i64 n] w (Gives (.int .i64 (sizeN n : Int)) w) := by
  have e : (sizeN n : Int) = 1 + n % 18446744073709551616 % 300 := by unfold sizeN; omega
  have hz : ∃ z, z = n % 18446744073709551616 := ⟨_, rfl⟩
  rw [e]
  clear e
  obtain ⟨z, hz⟩ := hz
  have e1 : IntKind.u64.wrap n = z := by rw [hz, IntKind.wrap_u64]
  rw [← hz]
  have e2 : 0 ≤ z := by omega
  have e3 : z < 18446744073709551616 := by omega
  clear hz
  go_enter Try.func10, Try.ntmps10
  go_wp2
  go_ret
  exact ⟨rfl, rfl⟩
theorem alive_run (w : World) : Calls Try.prog 11 #[] w fun e w' => e = .returned (.bool true) ∧ Stp [] w [] w' := by
  have K1 := Lib.hid (new_run 5 w (by omega) (by omega))
  go_enter Try.func11, Try.ntmps11
  go_wp2_with fail
  refine K1.out.mono ?_
  rintro _ w1 ⟨b, g, rfl, hb, hg, h1, s1⟩
  have K2 := Lib.hid (insert_run (h1.stays (Stp.alloc [] w1 (.cells #[.int .u8 1, .int .u8 2, .int .u8 3] 5))) 0 (some ⟨w1.heap.size, 0, none⟩) [1, 2, 3] 3 3 (Blk.bts (by unfold Blk; rw [heap_alloc_new]; rfl)) (fun _ ad e => by cases e; have := h1.row.lt; show w1.heap.size ≠ g; omega) rfl (Nat.le_refl _) (by simp))
  have H1 := Lib.hid (And.intro hb (And.intro hg s1))
  clear K1 h1 s1 hb hg
  go_wp2_with fail
  refine K2.out.mono ?_
  rintro _ w2 ⟨rfl, h2, s2⟩
  have e2 : List.take 0 ([] : List UInt8) ++ [1, 2, 3] ++ List.drop 0 [] = [1, 2, 3] := rfl
  rw [e2] at h2
  have K3 := Lib.hid (insert_run (h2.stays (Stp.alloc [] w2 (.cells #[.int .u8 9] 5))) 1 (some ⟨w2.heap.size, 0, none⟩) [9] 1 1 (Blk.bts (by unfold Blk; rw [heap_alloc_new]; rfl)) (fun _ ad e => by cases e; have := h2.row.lt; show w2.heap.size ≠ g; omega) rfl (by simp) (by simp))
  have H2 := Lib.hid (((H1.out.2.2.trans (Stp.alloc _ _ _)).trans s2))
  clear K2 h2 s2 e2
  go_wp2_with fail
  refine K3.out.mono ?_
  rintro _ w3 ⟨rfl, h3, s3⟩
  have e3 : List.take 1 ([1, 2, 3] : List UInt8) ++ [9] ++ List.drop 1 [1, 2, 3] = [1, 9, 2, 3] := rfl
  rw [e3] at h3
  have K4 := Lib.hid (delete_run h3 0 2 (by omega) (by simp))
  have H3 := Lib.hid (((H2.out.trans (Stp.alloc _ _ _)).trans s3))
  clear K3 h3 s3 e3 H2
  go_wp2_with fail
  refine K4.out.mono ?_
  rintro _ w4 ⟨rfl, h4, s4⟩
  have e4 : List.take 0 ([1, 9, 2, 3] : List UInt8) ++ List.drop 2 [1, 9, 2, 3] = [2, 3] := rfl
  rw [e4] at h4
  have H4 := Lib.hid (And.intro h4 (H3.out.trans s4))
  have K5 : Hid (Calls Try.prog 21 #[.pointer (some ⟨b, 0, none⟩)] w4 fun e w' => e = .returned (.string ⟨#[2, 3]⟩) ∧ Stp [] w4 [] w') := Lib.hid (text_run h4)
  clear K4 h4 s4 e4 H3
  go_wp2_with fail
  refine K5.out.mono ?_
  rintro _ w5 ⟨rfl, s5⟩
  have h5 := H4.out.1.stays s5
  have K6 := Lib.hid (cap_cl h5)
  have K7 : Hid (Calls Try.prog 30 #[.pointer (some ⟨b, 0, none⟩)] w5 fun e w' => e = .returned (.string ⟨#[2, 3, 0, 0, 0]⟩) ∧ Stp [] w5 [] w') := Lib.hid (cells_run h5)
  have H5 := Lib.hid (H4.out.2.none.trans s5)
  clear K5 s5 h5 H4
  go_wp2_with fail
  refine K6.out.mono ?_
  rintro _ w5 ⟨rfl, rfl⟩
  clear K6
  go_wp2_with fail
  refine K7.out.mono ?_
  rintro _ w6 ⟨rfl, s6⟩
  have H6 := Lib.hid (H5.out.trans s6)
  clear K7 s6
  go_wp2
  go_ret
  exact ⟨rfl, H6.out⟩
/-- An answer, and nothing turned that was there. -/
def Tells (v : Value) (W : World) (e : Ending) (w' : World) : Prop := e = .returned v ∧ Stp [] W [] w'
theorem Gives.tells {f : FuncId} {xs : Array Value} {v : Value} {W : World} (h : Calls Try.prog f xs W (Gives v W)) : Calls Try.prog f xs W (Tells v W) := h.mono fun _ _ ⟨h1, h2⟩ => ⟨h1, h2 ▸ Stp.refl _ _⟩
theorem Says.tells {f : FuncId} {xs : Array Value} {v : Value} {W : World} (h : Calls Try.prog f xs W (Says v W)) : Calls Try.prog f xs W (Tells v W) := h.mono fun _ _ ⟨h1, q, h2⟩ => ⟨h1, h2 ▸ Stp.drewN _ _ _⟩
theorem alive_tells (W : World) : Calls Try.prog 11 #[] W (Tells (.bool true) W) := alive_run W
theorem ar_first {W : World} {b g N : Nat} {x : List UInt8} (h : Ar W b g N (List.take 0 [] ++ x ++ List.drop 0 [])) : Ar W b g N x := by simpa using h
end Go.Proofs.Ytkkfpbnlhgnchaa
