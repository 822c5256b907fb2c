/-
  The closures that read a line: of each form.
-/
import Derived.Test.YthfiilhbgogoaaaGreatDoorTake
namespace Go.Proofs.YthfiilhbgogoaaaGreatDoor
open Go.RowKit Go.Lib
set_option linter.unusedVariables false

def E0 : Ef := ⟨0, 0, 0, [], 0, false⟩
def tks : List FK → List (List UInt8) → Ef → Option Ef
  | [], _, x => some x
  | k :: ks, s :: ss, x => match tk k x s with
    | none => none
    | some y => tks ks ss y
  | _ :: _, [], _ => none
/-- What a form reads. -/
def rd1 (nm : List UInt8) (ks : List FK) (s : List UInt8) : Option Ef :=
  if (splN ks.length s).length = ks.length + 1 ∧ (splN ks.length s)[0]? = some nm then tks ks ((splN ks.length s).drop 1) E0 else none
def evv (k : Int) (f m t : Nat) (d : Value) (n : Int) (ok : Bool) : Value := .agg #[.int .i64 k, .int .u32 (f : Int), .int .u8 (m : Int), .int .u8 (t : Int), d, .int .i64 n, .bool ok]
/-- Bytes, in a block that is new since 'base'. -/
def Dal (base : Nat) (w : World) (d : Value) (l : List UInt8) : Prop := ∃ a cap, d = .slice a l.length cap ∧ Bts w a l ∧ l.length ≤ cap ∧ (a = none → cap = 0) ∧ ∀ ad, a = some ad → base ≤ ad.block
theorem Dal.stays {base : Nat} {w w' : World} {d : Value} {l : List UInt8} {F : List Nat} (h : Dal base w d l) (hs : Stp [] w F w') : Dal base w' d l := by
  obtain ⟨a, cap, e, h1, h2⟩ := h
  exact ⟨a, cap, e, h1.stays hs, h2⟩
def ReadTo (o : Option Ef) (w : World) (e : Ending) (w' : World) : Prop :=
  Stp [] w [] w' ∧ match o with
    | none => e = .returned (.tuple #[evv 0 0 0 0 (.slice none 0 0) 0 false, .bool false])
    | some x => ∃ d, e = .returned (.tuple #[evv 0 x.f x.m x.t d (x.n : Int) x.ok, .bool true]) ∧ Dal w.heap.size w' d x.d
theorem eff_info : (Tryz.prog.info? 43).map (·.size) = some 7 := by kernel_rfl
theorem res_eff2 {fn : Func} {p u : Tmp} (h : fn.results = #[.cell p 43, .tmp u]) (tmps : Array Value) {w : World} {g : Nat} {k : Int} {f m t : Nat} {d : Value} {n : Int} {ok : Bool} (hp : tmps.getD p undef = .pointer (some ⟨g, 0, none⟩))
    (hg : EAt w g k f m t d n ok) : (results fn tmps).run Tryz.prog w = .ok (.tuple #[evv k f m t d n ok, tmps.getD u undef]) w := by
  rw [results_cell_tmp h, hp]
  have h1 := run_loadVar_row (P := Tryz.prog) w g _ _ _ _ _ hg Tryz.underlying43 rfl eff_info
  simp only [asAddr, Sem.run_pure, Result.andThen_ok, h1]
  unfold evv
  rfl
def putId : FK → FuncId
  | .ok => 45
  | .attrs => 47
  | .data => 51
  | .num => 55
theorem putF_id (k : FK) : putF k = .func (.func (putId k)) #[] #[] := by cases k <;> rfl
theorem EAt.set7 {W : World} {g : Nat} {k : Int} {f m t : Nat} {d : Value} {n : Int} {ok : Bool} (h : EAt W g k f m t d n ok) (k' : Int) (f' m' t' : Nat) (d' : Value) (n' : Int) (ok' : Bool) :
    EAt (((((((W.setCell ⟨g, 0, none⟩ (.int .i64 k')).setCell ⟨g, 1, none⟩ (.int .u32 (f' : Int))).setCell ⟨g, 2, none⟩ (.int .u8 (m' : Int))).setCell ⟨g, 3, none⟩ (.int .u8 (t' : Int))).setCell ⟨g, 4, none⟩ d').setCell ⟨g, 5, none⟩ (.int .i64 n')).setCell ⟨g, 6, none⟩ (.bool ok')) g k' f' m' t' d' n' ok' :=
  (((((h.setK k').setA f' m' t').setD d').setN n').setO ok')
theorem stp7 (W : World) (g : Nat) (a b c d e f h : Value) : Stp [g] W [g] (((((((W.setCell ⟨g, 0, none⟩ a).setCell ⟨g, 1, none⟩ b).setCell ⟨g, 2, none⟩ c).setCell ⟨g, 3, none⟩ d).setCell ⟨g, 4, none⟩ e).setCell ⟨g, 5, none⟩ f).setCell ⟨g, 6, none⟩ h) :=
  ((((((stp_one _ _ _ _).trans (stp_one _ _ _ _)).trans (stp_one _ _ _ _)).trans (stp_one _ _ _ _)).trans (stp_one _ _ _ _)).trans (stp_one _ _ _ _)).trans (stp_one _ _ _ _)
set_option maxHeartbeats 1000000 in
set_option maxRecDepth 100000 in
theorem rform_run (nm : List UInt8) (ks : List FK) (x : Nat × Nat) (s : List UInt8) (hs : s.length ≤ 100000) (hk : ks.length ≤ 3) (w : World) (hT : Tabs w) (hF : FormAt w x nm ks) :
    Calls Tryz.prog 43 #[.string (st s), .pointer (some ⟨x.2, 0, none⟩), .pointer (some ⟨x.1, 0, none⟩)] w (ReadTo (rd1 nm ks s) w) := by
  obtain ⟨hn, a, cap, hf, hcl⟩ := hF
  have K : Hid (∀ W, Calls Tryz.prog 44 #[.string (st s), .string ⟨#[32]⟩, .int .i64 (1 + (ks.length : Int))] W (Splits (splN ks.length s) W)) := Lib.hid fun W => by
    have := split_run s ks.length hk hs W
    rw [show ((ks.length + 1 : Nat) : Int) = 1 + (ks.length : Int) by omega] at this
    exact this
  obtain ⟨x1, x2⟩ := x
  have hx2 : x2 < w.heap.size := block_lt_of_cell hf
  have hx1 : x1 < w.heap.size := block_lt_of_cell hn
  have hx3 : ¬ x2 = w.heap.size := by omega
  simp only at hf hn
  go_enter Tryz.func43, Tryz.ntmps43
  go_wp2_with fail
  refine (K.out _).mono ?_
  rintro _ w1 ⟨g, cp, rfl, h1, h2⟩
  have hS1 : Stp [] w [] w1 := (Stp.alloc [] w _).trans h2
  have R00 : EAt (w.alloc (.cells #[.int .i64 0, .int .u32 0, .int .u8 0, .int .u8 0, .slice none 0 0, .int .i64 0, .bool false] 43)) w.heap.size 0 0 0 0 (.slice none 0 0) 0 false := heap_alloc_new _ _
  have R0 := R00.other h2 (by simp)
  have HR : Aside (EAt w1 w.heap.size 0 0 0 0 (.slice none 0 0) 0 false ∧ Stp [] w [] w1 ∧ Tabs w1) := ⟨R0, hS1, hT.stays hS1⟩
  have hf1 := hS1.keepsAny hf
  have hn1 := hS1.keepsAny hn
  have HC : Aside (∀ (i : Nat) k, ks[i]? = some k → ∃ g, a = some ⟨g, 0, none⟩ ∧ w1.cell? ⟨g, 2 * i, none⟩ = some (putF k) ∧ w1.cell? ⟨g, 2 * i + 1, none⟩ = some (takeF k)) := fun i k hk => by
    obtain ⟨g, e, q1, q2⟩ := hcl i k hk
    exact ⟨g, e, hS1.keepsAny q1, hS1.keepsAny q2⟩
  have HW : Aside (∀ (j : Nat) x, (splN ks.length s)[j]? = some x → w1.cell? ⟨g, j, none⟩ = some (.string (st x))) := h1
  have HV : Aside (rd1 nm ks s = if (splN ks.length s).length = ks.length + 1 ∧ (splN ks.length s)[0]? = some nm then tks ks ((splN ks.length s).drop 1) E0 else none) := rfl
  have HB : Aside (∀ p ∈ splN ks.length s, p.length ≤ s.length) := splN_mem _ _
  have hwr : IntKind.i64.wrap (1 + (ks.length : Int)) = 1 + (ks.length : Int) := IntWalk.i64_in _ (by omega)
  have hwl := splN_len ks.length s
  clear hT hf hn hcl h1 h2 hS1 K R00
  generalize splN ks.length s = ws at *
  have c0 := R0.c0
  have c1 := R0.c1
  have c2 := R0.c2
  have c3 := R0.c3
  have c4 := R0.c4
  have c5 := R0.c5
  have c6 := R0.c6
  have z0 := R0.fz 0
  have z1 := R0.fz 1
  have z2 := R0.fz 2
  have z3 := R0.fz 3
  have z4 := R0.fz 4
  have z5 := R0.fz 5
  have z6 := R0.fz 6
  clear R0
  by_cases hl : ws.length = ks.length + 1
  · obtain ⟨p0, hp0⟩ : ∃ p0, ws[0]? = some p0 := ⟨ws[0]'(by omega), List.getElem?_eq_getElem (by omega)⟩
    have hc0 := HW.out 0 p0 hp0
    have hbne : ((ws.length : Int) != 1 + (ks.length : Int)) = false := by rw [bne_eq_false_iff_eq]; omega
    have hpos : (0 : Int) < (ws.length : Int) := by omega
    by_cases hnm : p0 = nm
    · have hq : ((st p0).toList == (st nm).toList) = true := st_yes (by rw [hnm])
      have HV2 : Aside (rd1 nm ks s = tks ks (ws.drop 1) E0) := by
        show rd1 nm ks s = _
        rw [HV.out, if_pos ⟨hl, by rw [hp0, hnm]⟩]
      clear HV hnm
      obtain ⟨N, hN⟩ : ∃ N, ws.length = N := ⟨_, rfl⟩
      rw [hN] at hbne hpos hwl ⊢
      have HN : Aside (ws.length = N ∧ N = ks.length + 1) := ⟨hN, by omega⟩
      clear hl hN hp0
      have hx4 : x2 < w1.heap.size := block_lt_of_cell hf1
      have hx5 : ¬ x2 = w1.heap.size := by omega
      have H0 : Aside (EfAt (w1.alloc (.cells #[.int .i64 0, .int .u32 0, .int .u8 0, .int .u8 0, .slice none 0 0, .int .i64 0, .bool false] 43)).drew w1.heap.size E0 ∧ Stp [] w1 [w1.heap.size] (w1.alloc (.cells #[.int .i64 0, .int .u32 0, .int .u8 0, .int .u8 0, .slice none 0 0, .int .i64 0, .bool false] 43)).drew) := by
        have q : EAt (w1.alloc (.cells #[.int .i64 0, .int .u32 0, .int .u8 0, .int .u8 0, .slice none 0 0, .int .i64 0, .bool false] 43)) w1.heap.size 0 0 0 0 (.slice none 0 0) 0 false := heap_alloc_new _ _
        refine ⟨⟨_, q.other (Stp.drew [] _) (by simp), none, 0, rfl, Bts.nil _ _, by simp [E0], fun _ => rfl, fun _ h => by cases h⟩, ?_⟩
        have := (Stp.alloc [] w1 (.cells #[.int .i64 0, .int .u32 0, .int .u8 0, .int .u8 0, .slice none 0 0, .int .i64 0, .bool false] 43)).trans (Stp.drew [] _)
        exact this.fresh (Stp.refl [w1.heap.size] _) (by simp)
      clear c0 c1 c2 c3 c4 c5 c6 z0 z1 z2 z3 z4 z5 z6
      go_wp2_with fail
      go_region
      go_wp2
      go_loopg [31] ks.length (fun gk v31 wr => ∃ (i : Nat) (y : Ef), v31 = .int .i64 (i : Int) ∧ i ≤ ks.length ∧ ks.length - i ≤ gk ∧ Aside (rd1 nm ks s = tks (ks.drop i) (ws.drop (i + 1)) y ∧ EfAt wr w1.heap.size y ∧ Stp [] w1 [w1.heap.size] wr))
      case atStart => exact ⟨0, E0, rfl, by omega, by omega, HV2.out, H0.out.1, H0.out.2⟩
      case round =>
        obtain ⟨i, y, rfl, hi, hg, HS⟩ := hrel
        obtain ⟨hrd, hE, hSt⟩ := HS.out
        by_cases hlt : i < ks.length
        · have hltz : (i : Int) < (ks.length : Int) := by omega
          obtain ⟨k, hk2⟩ : ∃ k, ks[i]? = some k := ⟨ks[i], List.getElem?_eq_getElem hlt⟩
          obtain ⟨p, hp⟩ : ∃ p, ws[i + 1]? = some p := ⟨ws[i + 1]'(by have := HN.out; omega), List.getElem?_eq_getElem (by have := HN.out; omega)⟩
          obtain ⟨gs, ha, q1, q2⟩ := HC.out i k hk2
          subst ha
          have e1 := hSt.keepsAny q1
          have e2 := hSt.keepsAny q2
          rw [putF_id, Nat.mul_comm] at e1
          rw [takeF_id, Nat.mul_comm] at e2
          have e3 := hSt.keepsAny (HW.out (i + 1) p hp)
          have hks : ks.drop i = k :: ks.drop (i + 1) := by
            obtain ⟨h, e⟩ := List.getElem?_eq_some_iff.1 hk2
            rw [List.drop_eq_getElem_cons h, e]
          have hws : ws.drop (i + 1) = p :: ws.drop (i + 1 + 1) := by
            obtain ⟨h, e⟩ := List.getElem?_eq_some_iff.1 hp
            rw [List.drop_eq_getElem_cons h, e]
          have HRD : Aside (rd1 nm ks s = match tk k y p with
              | none => none
              | some z => tks (ks.drop (i + 1)) (ws.drop (i + 1 + 1)) z) := by
            show rd1 nm ks s = _
            rw [hrd, hks, hws]
            rfl
          have hpl : p.length ≤ 100000 := Nat.le_trans (HB.out p (List.mem_of_getElem? hp)) hs
          have HT : Aside (Tabs wr) := HR.out.2.2.stays hSt
          have n2 : g ≠ w1.heap.size := by
            have := block_lt_of_cell (HW.out (i + 1) p hp)
            simp only at this
            omega
          have KT : Hid (∀ W, Stp [] wr [] W → Calls Tryz.prog (takeId k) #[.pointer (some ⟨w1.heap.size, 0, none⟩), .string (st p)] W (Took (tk k y p) w1.heap.size W)) := Lib.hid fun W hs => take_run k y p hpl W (HT.out.stays hs) _ (hE.stays hs)
          have HG : Aside (Stp [] w1 [w1.heap.size] wr ∧ EfAt wr w1.heap.size y) := ⟨hSt, hE⟩
          have hid : takeId k = 46 ∨ takeId k = 49 ∨ takeId k = 53 ∨ takeId k = 57 := by cases k <;> simp [takeId]
          generalize takeId k = tid at e2 KT hid
          generalize putId k = pid at e1
          have b1 : (1 : Int) + (i : Int) < (N : Int) := by have := HN.out; omega
          have b2 : ((1 : Int) + (i : Int)).toNat = i + 1 := by omega
          have b3 : (0 : Int) ≤ 1 + (i : Int) := by omega
          have hw1 : IntKind.i64.wrap (1 + (i : Int)) = 1 + (i : Int) := IntWalk.i64_in _ (by omega)
          clear hrd hE hSt HS hks hws hk2 hp HV2 H0 q1 q2 hf1 hn1 hc0 hq hbne hpos HC HW HB hwl
          go_wp2_with fail
          have H3 : Aside (Stp [] wr [] (wr.alloc (.cells #[.func (.func pid) #[] #[], .func (.func tid) #[] #[]] 76))) := Stp.alloc _ _ _
          have f1 : (wr.alloc (.cells #[.func (.func pid) #[] #[], .func (.func tid) #[] #[]] 76)).cell? ⟨wr.heap.size, 1, none⟩ = some (.func (.func tid) #[] #[]) := by
            rw [cell_of_row _ _ 1 _ _ _ (heap_alloc_new wr _)]
            rfl
          have f2 := H3.out.keepsAny e3
          have n1 : wr.heap.size ≠ w1.heap.size := by
            obtain ⟨_, q, _⟩ := HG.out.2
            have := q.lt
            omega
          generalize wr.alloc (.cells #[.func (.func pid) #[] #[], .func (.func tid) #[] #[]] 76) = w3 at *
          generalize wr.heap.size = gq at *
          have hk0 : Aside (∀ W, Stp [] w3 [] W → W.cell? ⟨gq, 1, none⟩ = some (.func (.func tid) #[] #[]) ∧ W.cell? ⟨g, i + 1, none⟩ = some (.string (st p))) := fun W hs => ⟨hs.keepsAny f1, hs.keepsAny f2⟩
          have hk1 : Aside (∀ W w4, Stp [] w3 [] W → Stp [w1.heap.size] W [w1.heap.size] w4 → w4.cell? ⟨gq, 1, none⟩ = some (.func (.func tid) #[] #[]) ∧ w4.cell? ⟨g, i + 1, none⟩ = some (.string (st p))) := fun W w4 hs h4 => by
            obtain ⟨q1, q2⟩ := hk0.out W hs
            refine ⟨(h4.cell (block_lt_of_cell q1) (by simpa using n1)).trans q1, (h4.cell (block_lt_of_cell q2) (by simpa using n2)).trans q2⟩
          have hcur : Stp [] w3 [] w3.drew := Stp.drew _ _
          clear e1 e2 e3 f1 f2
          cases htk : tk k y p with
          | none =>
            have KT2 : Hid (∀ W, Stp [] w3 [] W → Calls Tryz.prog tid #[.pointer (some ⟨w1.heap.size, 0, none⟩), .string (st p)] W fun e w' => e = .returned (.bool false) ∧ Stp [w1.heap.size] W [w1.heap.size] w') := Lib.hid fun W hs => (KT.out W (H3.out.trans hs)).mono fun e w' h => by
              unfold Took at h
              rw [htk] at h
              exact ⟨h.2, h.1⟩
            have HRN : Aside (rd1 nm ks s = none) := by
              show rd1 nm ks s = none
              rw [HRD.out, htk]
            have HZ : Aside (∀ W w4, Stp [] w3 [] W → Stp [w1.heap.size] W [w1.heap.size] w4 → EAt w4 w.heap.size 0 0 0 0 (.slice none 0 0) 0 false ∧ Stp [] w [] w4) := fun W w4 h1 h2 => by
              have h3 : Stp [] w1 [w1.heap.size] w4 := ((HG.out.1.none.trans H3.out).trans h1).fresh h2 (by simp)
              exact ⟨HR.out.1.other h3 (by simp), HR.out.2.1.trans h3.none⟩
            clear KT htk HRD HG H3 HT
            rcases hid with rfl | rfl | rfl | rfl
            · go_region_held3 (fun W => W.cell? ⟨gq, 1, none⟩ = some (.func (.func 46) #[] #[]) ∧ W.cell? ⟨g, i + 1, none⟩ = some (.string (st p)))
                (first | exact hk0.out _ hcur | exact hk1.out _ _ hcur s4 | assumption)
                (first
                  | (go_at_call 46; refine (KT2.out _ hcur).mono ?_; rintro _ w4 ⟨rfl, s4⟩))
              obtain ⟨R0, hS4⟩ := HZ.out _ _ hcur s4
              have HR4 : Aside (EAt w4 w.heap.size 0 0 0 0 (.slice none 0 0) 0 false ∧ Stp [] w [] w4) := ⟨R0, hS4⟩
              have c0 := R0.c0
              have c1 := R0.c1
              have c2 := R0.c2
              have c3 := R0.c3
              have c4 := R0.c4
              have c5 := R0.c5
              have c6 := R0.c6
              have z0 := R0.fz 0
              have z1 := R0.fz 1
              have z2 := R0.fz 2
              have z3 := R0.fz 3
              have z4 := R0.fz 4
              have z5 := R0.fz 5
              have z6 := R0.fz 6
              clear R0 hS4 s4
              go_wp2
              refine bodyPost_ret (res_eff2 rfl _ rfl (HR4.out.1.set7 0 0 0 0 (.slice none 0 0) 0 false)) rfl ?_
              exact ⟨(HR4.out.2.fresh (stp7 _ _ _ _ _ _ _ _ _) (by simp)).none, by rw [HRN.out]; rfl⟩
            · go_region_held3 (fun W => W.cell? ⟨gq, 1, none⟩ = some (.func (.func 49) #[] #[]) ∧ W.cell? ⟨g, i + 1, none⟩ = some (.string (st p)))
                (first | exact hk0.out _ hcur | exact hk1.out _ _ hcur s4 | assumption)
                (first
                  | (go_at_call 49; refine (KT2.out _ hcur).mono ?_; rintro _ w4 ⟨rfl, s4⟩))
              obtain ⟨R0, hS4⟩ := HZ.out _ _ hcur s4
              have HR4 : Aside (EAt w4 w.heap.size 0 0 0 0 (.slice none 0 0) 0 false ∧ Stp [] w [] w4) := ⟨R0, hS4⟩
              have c0 := R0.c0
              have c1 := R0.c1
              have c2 := R0.c2
              have c3 := R0.c3
              have c4 := R0.c4
              have c5 := R0.c5
              have c6 := R0.c6
              have z0 := R0.fz 0
              have z1 := R0.fz 1
              have z2 := R0.fz 2
              have z3 := R0.fz 3
              have z4 := R0.fz 4
              have z5 := R0.fz 5
              have z6 := R0.fz 6
              clear R0 hS4 s4
              go_wp2
              refine bodyPost_ret (res_eff2 rfl _ rfl (HR4.out.1.set7 0 0 0 0 (.slice none 0 0) 0 false)) rfl ?_
              exact ⟨(HR4.out.2.fresh (stp7 _ _ _ _ _ _ _ _ _) (by simp)).none, by rw [HRN.out]; rfl⟩
            · go_region_held3 (fun W => W.cell? ⟨gq, 1, none⟩ = some (.func (.func 53) #[] #[]) ∧ W.cell? ⟨g, i + 1, none⟩ = some (.string (st p)))
                (first | exact hk0.out _ hcur | exact hk1.out _ _ hcur s4 | assumption)
                (first
                  | (go_at_call 53; refine (KT2.out _ hcur).mono ?_; rintro _ w4 ⟨rfl, s4⟩))
              obtain ⟨R0, hS4⟩ := HZ.out _ _ hcur s4
              have HR4 : Aside (EAt w4 w.heap.size 0 0 0 0 (.slice none 0 0) 0 false ∧ Stp [] w [] w4) := ⟨R0, hS4⟩
              have c0 := R0.c0
              have c1 := R0.c1
              have c2 := R0.c2
              have c3 := R0.c3
              have c4 := R0.c4
              have c5 := R0.c5
              have c6 := R0.c6
              have z0 := R0.fz 0
              have z1 := R0.fz 1
              have z2 := R0.fz 2
              have z3 := R0.fz 3
              have z4 := R0.fz 4
              have z5 := R0.fz 5
              have z6 := R0.fz 6
              clear R0 hS4 s4
              go_wp2
              refine bodyPost_ret (res_eff2 rfl _ rfl (HR4.out.1.set7 0 0 0 0 (.slice none 0 0) 0 false)) rfl ?_
              exact ⟨(HR4.out.2.fresh (stp7 _ _ _ _ _ _ _ _ _) (by simp)).none, by rw [HRN.out]; rfl⟩
            · go_region_held3 (fun W => W.cell? ⟨gq, 1, none⟩ = some (.func (.func 57) #[] #[]) ∧ W.cell? ⟨g, i + 1, none⟩ = some (.string (st p)))
                (first | exact hk0.out _ hcur | exact hk1.out _ _ hcur s4 | assumption)
                (first
                  | (go_at_call 57; refine (KT2.out _ hcur).mono ?_; rintro _ w4 ⟨rfl, s4⟩))
              obtain ⟨R0, hS4⟩ := HZ.out _ _ hcur s4
              have HR4 : Aside (EAt w4 w.heap.size 0 0 0 0 (.slice none 0 0) 0 false ∧ Stp [] w [] w4) := ⟨R0, hS4⟩
              have c0 := R0.c0
              have c1 := R0.c1
              have c2 := R0.c2
              have c3 := R0.c3
              have c4 := R0.c4
              have c5 := R0.c5
              have c6 := R0.c6
              have z0 := R0.fz 0
              have z1 := R0.fz 1
              have z2 := R0.fz 2
              have z3 := R0.fz 3
              have z4 := R0.fz 4
              have z5 := R0.fz 5
              have z6 := R0.fz 6
              clear R0 hS4 s4
              go_wp2
              refine bodyPost_ret (res_eff2 rfl _ rfl (HR4.out.1.set7 0 0 0 0 (.slice none 0 0) 0 false)) rfl ?_
              exact ⟨(HR4.out.2.fresh (stp7 _ _ _ _ _ _ _ _ _) (by simp)).none, by rw [HRN.out]; rfl⟩
          | some z =>
            have KT2 : Hid (∀ W, Stp [] w3 [] W → Calls Tryz.prog tid #[.pointer (some ⟨w1.heap.size, 0, none⟩), .string (st p)] W fun e w' => e = .returned (.bool true) ∧ EfAt w' w1.heap.size z ∧ Stp [w1.heap.size] W [w1.heap.size] w') := Lib.hid fun W hs => (KT.out W (H3.out.trans hs)).mono fun e w' h => by
              unfold Took at h
              rw [htk] at h
              exact ⟨h.2.1, h.2.2, h.1⟩
            have HRN : Aside (rd1 nm ks s = tks (ks.drop (i + 1)) (ws.drop (i + 1 + 1)) z) := by
              show rd1 nm ks s = _
              rw [HRD.out, htk]
            have HZ : Aside (∀ W w4, Stp [] w3 [] W → Stp [w1.heap.size] W [w1.heap.size] w4 → Stp [] w1 [w1.heap.size] w4) := fun W w4 h1 h2 => ((HG.out.1.none.trans H3.out).trans h1).fresh h2 (by simp)
            clear KT htk HRD HG H3 HT
            rcases hid with rfl | rfl | rfl | rfl
            · go_region_held3 (fun W => W.cell? ⟨gq, 1, none⟩ = some (.func (.func 46) #[] #[]) ∧ W.cell? ⟨g, i + 1, none⟩ = some (.string (st p)))
                (first | exact hk0.out _ hcur | exact hk1.out _ _ hcur s4 | assumption)
                (first
                  | (go_at_call 46; refine (KT2.out _ hcur).mono ?_; rintro _ w4 ⟨rfl, t4, s4⟩))
              have HY : Aside (EfAt w4 w1.heap.size z ∧ Stp [] w1 [w1.heap.size] w4) := ⟨t4, HZ.out _ _ hcur s4⟩
              clear t4 s4
              go_wp2
              go_roundg (ks.length - (i + 1))
              case measure => omega
              case rel => exact ⟨i + 1, z, by go_num, by omega, by omega, HRN.out, HY.out.1, HY.out.2⟩
            · go_region_held3 (fun W => W.cell? ⟨gq, 1, none⟩ = some (.func (.func 49) #[] #[]) ∧ W.cell? ⟨g, i + 1, none⟩ = some (.string (st p)))
                (first | exact hk0.out _ hcur | exact hk1.out _ _ hcur s4 | assumption)
                (first
                  | (go_at_call 49; refine (KT2.out _ hcur).mono ?_; rintro _ w4 ⟨rfl, t4, s4⟩))
              have HY : Aside (EfAt w4 w1.heap.size z ∧ Stp [] w1 [w1.heap.size] w4) := ⟨t4, HZ.out _ _ hcur s4⟩
              clear t4 s4
              go_wp2
              go_roundg (ks.length - (i + 1))
              case measure => omega
              case rel => exact ⟨i + 1, z, by go_num, by omega, by omega, HRN.out, HY.out.1, HY.out.2⟩
            · go_region_held3 (fun W => W.cell? ⟨gq, 1, none⟩ = some (.func (.func 53) #[] #[]) ∧ W.cell? ⟨g, i + 1, none⟩ = some (.string (st p)))
                (first | exact hk0.out _ hcur | exact hk1.out _ _ hcur s4 | assumption)
                (first
                  | (go_at_call 53; refine (KT2.out _ hcur).mono ?_; rintro _ w4 ⟨rfl, t4, s4⟩))
              have HY : Aside (EfAt w4 w1.heap.size z ∧ Stp [] w1 [w1.heap.size] w4) := ⟨t4, HZ.out _ _ hcur s4⟩
              clear t4 s4
              go_wp2
              go_roundg (ks.length - (i + 1))
              case measure => omega
              case rel => exact ⟨i + 1, z, by go_num, by omega, by omega, HRN.out, HY.out.1, HY.out.2⟩
            · go_region_held3 (fun W => W.cell? ⟨gq, 1, none⟩ = some (.func (.func 57) #[] #[]) ∧ W.cell? ⟨g, i + 1, none⟩ = some (.string (st p)))
                (first | exact hk0.out _ hcur | exact hk1.out _ _ hcur s4 | assumption)
                (first
                  | (go_at_call 57; refine (KT2.out _ hcur).mono ?_; rintro _ w4 ⟨rfl, t4, s4⟩))
              have HY : Aside (EfAt w4 w1.heap.size z ∧ Stp [] w1 [w1.heap.size] w4) := ⟨t4, HZ.out _ _ hcur s4⟩
              clear t4 s4
              go_wp2
              go_roundg (ks.length - (i + 1))
              case measure => omega
              case rel => exact ⟨i + 1, z, by go_num, by omega, by omega, HRN.out, HY.out.1, HY.out.2⟩
        · have hltz : ¬ (i : Int) < (ks.length : Int) := by omega
          have HRN : Aside (rd1 nm ks s = some y) := by
            show rd1 nm ks s = some y
            rw [hrd, List.drop_eq_nil_of_le (by omega), tks]
          obtain ⟨d, hE1, hd⟩ := hE
          obtain ⟨ad, cd, rfl, hb1, hb2, hb3, hb4⟩ := hd
          have R0 : EAt wr w.heap.size 0 0 0 0 (.slice none 0 0) 0 false := HR.out.1.other hSt (by simp)
          have hne : ¬ w1.heap.size = w.heap.size := by have := HR.out.1.lt; omega
          have HY : Aside (EAt wr w.heap.size 0 0 0 0 (.slice none 0 0) 0 false ∧ Stp [] w [] wr ∧ Bts wr ad y.d ∧ y.d.length ≤ cd ∧ (ad = none → cd = 0) ∧ ∀ x, ad = some x → w.heap.size < x.block) := ⟨R0, HR.out.2.1.trans hSt.none, hb1, hb2, hb3, fun x hx => by have := hb4 x hx; have := HR.out.1.lt; omega⟩
          have c0 := R0.c0
          have c1 := R0.c1
          have c2 := R0.c2
          have c3 := R0.c3
          have c4 := R0.c4
          have c5 := R0.c5
          have c6 := R0.c6
          have z0 := R0.fz 0
          have z1 := R0.fz 1
          have z2 := R0.fz 2
          have z3 := R0.fz 3
          have z4 := R0.fz 4
          have z5 := R0.fz 5
          have z6 := R0.fz 6
          have e0 := hE1.c0
          have e1 := hE1.c1
          have e2 := hE1.c2
          have e3 := hE1.c3
          have e4 := hE1.c4
          have e5 := hE1.c5
          have e6 := hE1.c6
          clear R0 hE1 hb1 hb2 hb3 hb4 hSt hrd HS HV2 H0 hf1 hn1 hc0 hq hbne hpos HC HW HB hwl HR
          generalize w1.heap.size = ge at *
          go_wp2
          refine bodyPost_ret (res_eff2 rfl _ rfl (HY.out.1.set7 0 y.f y.m y.t (.slice ad y.d.length cd) (y.n : Int) y.ok)) rfl ?_
          refine ⟨(HY.out.2.1.fresh (stp7 _ _ _ _ _ _ _ _ _) (by simp)).none, ?_⟩
          rw [HRN.out]
          exact ⟨_, rfl, ad, cd, rfl, HY.out.2.2.1.other (stp7 _ _ _ _ _ _ _ _ _) (fun _ x hx => by have := HY.out.2.2.2.2.2 x hx; simp; omega), HY.out.2.2.2.1, HY.out.2.2.2.2.1, fun x hx => Nat.le_of_lt (HY.out.2.2.2.2.2 x hx)⟩
    · have hq : ((st p0).toList == (st nm).toList) = false := st_no (fun e => hnm (st_inj e))
      have HV2 : Aside (rd1 nm ks s = none) := by
        show rd1 nm ks s = none
        rw [HV.out, if_neg (fun h => hnm (by have := h.2; rw [hp0] at this; exact Option.some.inj this))]
      clear HV HB HC HW hp0
      clear hl
      generalize ws.length = N at *
      go_wp2_with fail
      go_region
      all_goals
        go_wp2
        refine bodyPost_ret (res_eff2 rfl _ rfl ((HR.out.1.set7 0 0 0 0 (.slice none 0 0) 0 false).other (Stp.drew [] _) (by simp))) rfl ?_
        exact ⟨((HR.out.2.1.fresh (stp7 _ _ _ _ _ _ _ _ _) (by simp)).none).trans (Stp.drew _ _), by rw [HV2.out]; rfl⟩
  · have hbne : ((ws.length : Int) != 1 + (ks.length : Int)) = true := by rw [bne_iff_ne]; omega
    have HV2 : Aside (rd1 nm ks s = none) := by
      show rd1 nm ks s = none
      rw [HV.out, if_neg (fun h => hl h.1)]
    clear HV HB HC HW hl
    generalize ws.length = N at *
    go_wp2_with fail
    go_region
    all_goals
      go_wp2
      refine bodyPost_ret (res_eff2 rfl _ rfl ((HR.out.1.set7 0 0 0 0 (.slice none 0 0) 0 false).other (Stp.drew [] _) (by simp))) rfl ?_
      exact ⟨((HR.out.2.1.fresh (stp7 _ _ _ _ _ _ _ _ _) (by simp)).none).trans (Stp.drew _ _), by rw [HV2.out]; rfl⟩
end Go.Proofs.YthfiilhbgogoaaaGreatDoor
