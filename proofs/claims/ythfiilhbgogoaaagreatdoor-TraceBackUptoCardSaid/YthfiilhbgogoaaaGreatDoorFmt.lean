/-
  trace.Format.
-/
import Derived.Test.YthfiilhbgogoaaaGreatDoorShw
namespace Go.Proofs.YthfiilhbgogoaaaGreatDoor
open Go.RowKit Go.Lib
set_option linter.unusedVariables false

theorem batF_stays {B b : Nat} {p : Value} {bs : List Value} {w w' : World} {F : List Nat} {T e : TypeId} (h : Lib.BuilderAtF T e B b p bs w) (hs : Stp [] w F w') : Lib.BuilderAtF T e B b p bs w' := by
  obtain ⟨hB, v, hb, hown, hne⟩ := h
  refine ⟨hB, v, (hs.block b (Array.getElem?_eq_some_iff.1 hb).1 (by simp)).trans hb, ⟨hown.1, ?_⟩, hne⟩
  rcases hown.2 with hn | ⟨g, cap, cur, fz, hv, hbg, hg, rest⟩
  · exact .inl hn
  · exact .inr ⟨g, cap, cur, fz, hv, hbg, (hs.block g (Array.getElem?_eq_some_iff.1 hg).1 (by simp)).trans hg, rest⟩
theorem Bu.stays {B b : Nat} {l : List UInt8} {w w' : World} {F : List Nat} (h : Bu B b l w) (hs : Stp [] w F w') : Bu B b l w' :=
  h.elim (fun x => .inl (batF_stays x hs)) (fun x => .inr (batF_stays x hs))
theorem Bu.new (w : World) : Bu w.heap.size w.heap.size [] (w.alloc (.cells #[.pointer none, .slice none 0 0] 56)) :=
  .inl ⟨Nat.le_refl _, .slice none 0 0, heap_alloc_new _ _, ⟨rfl, .inl ⟨rfl, rfl⟩⟩, fun h => by cases h⟩
theorem Stp.belowB {w W W' : World} (h : Stp [] w [] W) (k : Below w.heap.size W W') : Stp [] w [] W' :=
  ⟨k.os.trans h.os, k.tape.trans h.tape, k.output.trans h.output, Nat.le_trans h.size k.size, fun i hi hF => (k.block i hi).trans (h.block i hi hF), fun _ h => by cases h⟩
def lnT (L : List Ev) : List UInt8 := L.flatMap fun x => (lnE x).1 ++ [10]
/-- The text of effects, and the error. -/
def fm (L : List Ev) : List UInt8 × Int := match L.find? (fun x => decide ((lnE x).2 ≠ 0)) with
  | some x => ([], (lnE x).2)
  | none => (lnT L, 0)
theorem lnT_snoc (L : List Ev) (i : Nat) (x : Ev) (h : L[i]? = some x) : lnT (L.take (i + 1)) = lnT (L.take i) ++ (lnE x).1 ++ [10] := by
  obtain ⟨hi, e⟩ := List.getElem?_eq_some_iff.1 h
  have q : ∀ A B : List Ev, lnT (A ++ B) = lnT A ++ lnT B := fun A B => by simp [lnT]
  rw [List.take_succ_eq_append_getElem hi, e, q]
  simp [lnT]
theorem fm_err (L : List Ev) (i : Nat) (x : Ev) (h : L[i]? = some x) (hp : ∀ y ∈ L.take i, (lnE y).2 = 0) (he : (lnE x).2 ≠ 0) : fm L = ([], (lnE x).2) := by
  obtain ⟨hi, e⟩ := List.getElem?_eq_some_iff.1 h
  have hL : L = L.take i ++ (x :: L.drop (i + 1)) := by
    rw [← e, ← List.drop_eq_getElem_cons hi, List.take_append_drop]
  have hf : L.find? (fun x => decide ((lnE x).2 ≠ 0)) = some x := by
    rw [hL, List.find?_append, List.find?_eq_none.2 (fun y hy => by simp [hp y hy])]
    simp [he]
  unfold fm
  rw [hf]
theorem fm_ok (L : List Ev) (hp : ∀ y ∈ L, (lnE y).2 = 0) : fm L = (lnT L, 0) := by
  unfold fm
  rw [List.find?_eq_none.2 (fun y hy => by simp [hp y hy])]
set_option maxHeartbeats 1000000 in
set_option maxRecDepth 100000 in
theorem format_run (a : Option Addr) (cap : Nat) (L : List Ev) (w : World) (hT : Tabs w) (hE : Er w a L) (hl : L.length ≤ 10000) (hx : ∀ x ∈ L, Ok x.f x.m x.t ∧ x.n ≤ 9223372036854775807 ∧ x.l.length ≤ 100000 ∧ (lnE x).1.length ≤ 9000) :
    Calls Tryz.prog 7 #[.slice a L.length cap] w (Tells (.tuple #[.string (st (fm L).1), .int .i64 (fm L).2]) w) := by
  have KA := Lib.hid all_run
  have HT : Aside (Tabs w ∧ Er w a L ∧ ∀ x ∈ L, Ok x.f x.m x.t ∧ x.n ≤ 9223372036854775807 ∧ x.l.length ≤ 100000 ∧ (lnE x).1.length ≤ 9000) := ⟨hT, hE, hx⟩
  clear hT hE hx
  go_enter Tryz.func7, Tryz.ntmps7
  go_wp2_with fail
  refine (KA.out _).mono ?_
  rintro _ w1 ⟨X, rfl, h1, h2⟩
  have hsc := store_all w1 X h1.1
  have hcl : (closures X).length = 14 := by rw [closures_len, h1.1]
  have H1 : Aside (AllAt (w1.alloc (.cells (closures X).toArray 52)) X ∧ (w1.alloc (.cells (closures X).toArray 52)).heap[w1.heap.size]? = some (.cells (closures X).toArray 52 (0, 0)) ∧ Stp [] w [] (w1.alloc (.cells (closures X).toArray 52))) :=
    ⟨h1.stays (Stp.alloc [] _ _), heap_alloc_new _ _, h2.trans (Stp.alloc [] _ _)⟩
  clear h1 h2 KA
  generalize w1.alloc (.cells (closures X).toArray 52) = w2 at *
  go_wp2
  generalize w1.heap.size = ga at *
  have KL : Hid (∀ (x : Ev), x ∈ L → ∀ W, Stp [] w2 [] W → Calls Tryz.prog 17 #[.pointer (some ⟨ga, 0, none⟩), .agg #[.int .i64 x.k, .int .u32 (x.f : Int), .int .u8 (x.m : Int), .int .u8 (x.t : Int), .slice x.a x.l.length x.c, .int .i64 x.n, .bool x.ok]] W (Tells (.tuple #[.string (st (lnE x).1), .int .i64 (lnE x).2]) W)) := Lib.hid fun x hx W hs => by
    obtain ⟨p1, p2, p3, _⟩ := HT.out.2.2 x hx
    exact line_run X ga x p1 p2 p3 W ((HT.out.1.stays H1.out.2.2).stays hs) (H1.out.1.stays hs) ((hs.block ga (Array.getElem?_eq_some_iff.1 H1.out.2.1).1 (by simp)).trans H1.out.2.1) (((HT.out.2.1.1 x hx).stays H1.out.2.2).stays hs)
  have KW : Hid (∀ (l m : List UInt8) (W : World), Bu w2.heap.size w2.heap.size l W → l.length + m.length ≤ 100000000 → w2.heap.size ≤ W.heap.size → Calls Tryz.prog 18 #[.pointer (some ⟨w2.heap.size, 0, none⟩), .string (st m)] W fun e w' => e = .returned (.tuple #[.int .i64 (m.length : Int), .nilIface]) ∧ Bu w2.heap.size w2.heap.size (l ++ m) w' ∧ Below w2.heap.size W w') := Lib.hid fun l m W h1 h2 h3 => write_run _ _ l m W h1 h2 h3
  clear hsc hcl
  go_loopg [13] L.length (fun gk v13 wr => ∃ i : Nat, v13 = .int .i64 (i : Int) ∧ i ≤ L.length ∧ L.length - i ≤ gk ∧ Aside (Bu w2.heap.size w2.heap.size (lnT (L.take i)) wr ∧ Stp [] w2 [] wr ∧ (∀ y ∈ L.take i, (lnE y).2 = 0) ∧ (lnT (L.take i)).length ≤ i * 9001))
  case atStart => exact ⟨0, rfl, by omega, by omega, Bu.new w2, Stp.alloc _ _ _, (fun y hy => by simp at hy), by simp [lnT]⟩
  case round =>
    obtain ⟨i, rfl, hi, hg, HS⟩ := hrel
    by_cases hlt : i < L.length
    · have hltz : (i : Int) < (L.length : Int) := by omega
      obtain ⟨x, hx⟩ : ∃ x, L[i]? = some x := ⟨L[i], List.getElem?_eq_getElem hlt⟩
      have hm := List.mem_of_getElem? hx
      obtain ⟨b, off, ha, hc⟩ := HT.out.2.1.2 (fun e => by simp [e] at hlt)
      subst ha
      obtain ⟨e0, e1, e2, e3, e4, e5, e6⟩ := ((hc i x hx).stays H1.out.2.2).stays HS.out.2.1
      have K1 : Hid (∀ W, Stp [] wr [] W → Calls Tryz.prog 17 #[.pointer (some ⟨ga, 0, none⟩), .agg #[.int .i64 x.k, .int .u32 (x.f : Int), .int .u8 (x.m : Int), .int .u8 (x.t : Int), .slice x.a x.l.length x.c, .int .i64 x.n, .bool x.ok]] W (Tells (.tuple #[.string (st (lnE x).1), .int .i64 (lnE x).2]) W)) := Lib.hid fun W hs => KL.out x hm W (HS.out.2.1.trans hs)
      by_cases he : (lnE x).2 = 0
      · have HN : Aside (lnT (L.take (i + 1)) = lnT (L.take i) ++ (lnE x).1 ++ [10] ∧ (∀ y ∈ L.take (i + 1), (lnE y).2 = 0) ∧ (lnE x).1.length ≤ 9000 ∧ i * 9001 ≤ 90010000) := by
          refine ⟨lnT_snoc L i x hx, fun y hy => ?_, (HT.out.2.2 x hm).2.2.2, (by have : i * 9001 ≤ 10000 * 9001 := Nat.mul_le_mul_right 9001 (by omega : i ≤ 10000); omega)⟩
          obtain ⟨h1, h2⟩ := List.getElem?_eq_some_iff.1 hx
          rw [List.take_succ_eq_append_getElem h1, h2] at hy
          rcases List.mem_append.1 hy with h | h
          · exact HS.out.2.2.1 y h
          · simp at h
            subst h
            exact he
        rw [he] at K1
        clear hc hx he hm
        generalize (lnE x).1 = z at *
        go_wp2_with fail
        refine (K1.out _ (Stp.alloc [] _ _)).mono ?_
        rintro _ w5 ⟨rfl, h5⟩
        have H5 : Aside (Bu w2.heap.size w2.heap.size (lnT (L.take i)) w5 ∧ Stp [] w2 [] w5) := ⟨(HS.out.1.stays (Stp.alloc [] _ _)).stays h5, (HS.out.2.1.trans (Stp.alloc [] _ _)).trans h5⟩
        clear h5 e0 e1 e2 e3 e4 e5 e6
        go_wp2_with fail
        refine (KW.out _ z _ H5.out.1 (by have := HS.out.2.2.2; have := HN.out.2.2; omega) H5.out.2.size).mono ?_
        rintro _ w6 ⟨rfl, hb6, h6⟩
        have H6 : Aside (Bu w2.heap.size w2.heap.size (lnT (L.take i) ++ z) w6 ∧ Stp [] w2 [] w6) := ⟨hb6, Stp.belowB H5.out.2 h6⟩
        clear hb6 h6
        go_wp2_with fail
        refine (KW.out _ [10] _ H6.out.1 (by have := HS.out.2.2.2; have := HN.out.2.2; simp; omega) H6.out.2.size).mono ?_
        rintro _ w7 ⟨rfl, hb7, h7⟩
        have H7 : Aside (Bu w2.heap.size w2.heap.size (lnT (L.take (i + 1))) w7 ∧ Stp [] w2 [] w7 ∧ (lnT (L.take (i + 1))).length ≤ (i + 1) * 9001) := ⟨by rw [HN.out.1]; exact hb7, Stp.belowB H6.out.2 h7, by
          have := HS.out.2.2.2
          have := HN.out.2.2.1
          rw [HN.out.1, List.length_append, List.length_append, Nat.add_mul]
          simp
          omega⟩
        clear hb7 h7
        go_wp2
        go_roundg (L.length - (i + 1))
        case measure => omega
        case rel => exact ⟨i + 1, by go_num, by omega, by omega, H7.out.1, H7.out.2.1, HN.out.2.1, H7.out.2.2⟩
      · have HN : Aside (fm L = ([], (lnE x).2)) := fm_err L i x hx HS.out.2.2.1 he
        have heb : ((lnE x).2 == 0) = false := beq_eq_false_iff_ne.2 he
        clear hc hx hm
        generalize (lnE x).1 = z at *
        generalize (lnE x).2 = ez at *
        go_wp2_with fail
        refine (K1.out _ (Stp.alloc [] _ _)).mono ?_
        rintro _ w5 ⟨rfl, h5⟩
        have H5 : Aside (Stp [] w [] w5) := (H1.out.2.2.trans (HS.out.2.1.trans (Stp.alloc [] _ _))).trans h5
        clear h5 e0 e1 e2 e3 e4 e5 e6
        go_wp2
        go_ret2
        exact ⟨by rw [HN.out]; rfl, H5.out⟩
    · have hltz : ¬ (i : Int) < (L.length : Int) := by omega
      obtain rfl : i = L.length := by omega
      have HN : Aside (fm L = (lnT L, 0) ∧ Bu w2.heap.size w2.heap.size (lnT L) wr ∧ Stp [] w2 [] wr) := by
        have h1 := HS.out
        rw [List.take_length] at h1
        exact ⟨fm_ok L h1.2.2.1, h1.1, h1.2.1⟩
      have KS : Hid (Calls Tryz.prog 19 #[.pointer (some ⟨w2.heap.size, 0, none⟩)] wr fun e w' => e = .returned (.string (st (lnT L))) ∧ Below w2.heap.size wr w') := Lib.hid (string_run _ _ _ wr HN.out.2.1 HN.out.2.2.size)
      clear HS KL KW
      go_wp2_with fail
      refine KS.out.mono ?_
      rintro _ w5 ⟨rfl, h5⟩
      go_wp2
      go_ret2
      exact ⟨by rw [HN.out.1]; rfl, H1.out.2.2.trans (Stp.belowB HN.out.2.2 h5)⟩
end Go.Proofs.YthfiilhbgogoaaaGreatDoor
