/- The statements about package exact: ExactCounts. Conditions: the program's stores keep their contracts (ProgX). -/
import Derived.Test.YtjkomnjkolggnaaOxdeck
import Derived.Test.YtjkomnjkolggnaaU16
namespace Go.Proofs.Ytjkomnjkolggnaa
open Go.ChangeShapes Go.WideShapes Go.ChangeAt Go.RowKit
set_option linter.unusedVariables false
set_option linter.unusedSimpArgs false
set_option maxRecDepth 100000

/-- A store of one entry. -/
def oneX (k : ByteArray) (own sl : Int) : ExSt := ⟨32, [(k, own, sl)]⟩
theorem place_one (k : ByteArray) (a b : Int) : placeE [((k, a, b) : En)] k = some 0 := placeE_at (e := (k, a, b)) rfl rfl fun j x hj => absurd hj (Nat.not_lt_zero _)
theorem add_one {k : ByteArray} {own sl x : Int} (h : own + sl + x ≤ 9223372036854775808) : (oneX k own sl).add k x = (0, oneX k (own + x) sl) := by
  have hf : fitsB (ctE (k, own, sl)) x = true := decide_eq_true h
  exact addX_ok (t := oneX k own sl) (i := 0) (place_one k own sl) rfl hf
theorem add_other {k s : ByteArray} {own sl x : Int} (h : s ≠ k) : (oneX k own sl).add s x = (8, oneX k own sl) :=
  addX_none (t := oneX k own sl) (placeE_gone fun j y hj hk => by
    have := List.mem_of_getElem? hj
    rw [List.mem_singleton.1 this] at hk
    exact h hk.symm)
theorem put_one {x : En} (hs : x.1.size ≠ 0) (hr : roomX x = true) : (newX 32).put x = (0, oneX x.1 x.2.1 x.2.2) := by
  rw [putX_ok (t := newX 32) hs rfl (by decide) hr]
  rfl
theorem get_one (k : ByteArray) (own sl : Int) : (oneX k own sl).get k = ((k, own, sl), true) := getX_some (t := oneX k own sl) (place_one k own sl) rfl
theorem BoxC.grown {col : Col} {W W' : World} {G gd : Nat} {cs : Array Value} {ty : TypeId} (X : BoxC col W G 0 cs ty) (hg : W.grownBy W' (some gd)) (hc : col gd = 1) : BoxC col W' G 0 cs ty :=
  ⟨(hg.block G X.lt fun e => by injection e with e; subst e; have := X.col; omega).trans X.heap, X.col⟩
set_option maxHeartbeats 8000000 in
theorem exactCounts_walk {PX : RepX} (HP : ProgX PX) (A : Option Addr) (m d : Nat) (B : Option Addr) (p c : Nat) (w : World) (hA : RdI w A m d) (hB : Arg16 w B p c) :
    Calls Try.prog 5 #[.slice A m d, .slice B p c] w (Yes w) := by
  obtain ⟨ws, hW⟩ := hB
  have hcapB := hW.cap
  have hmaxB := hW.max
  have hS0 := Since.start w
  have hnew := HP.new (k := 16) hS0.tidy (by omega) 32 (by unfold J64; omega)
  go_enter Try.func5, Try.ntmps5
  go_wp2_with fail
  refine hnew.mono ?_
  rintro e w2 (⟨_, g, rfl, col2, p2, s2⟩ | ⟨h0, _⟩)
  rotate_left
  · exact absurd h0 (show ¬ xsE 32 = 1 by decide)
  have A2 : AtX PX w col2 w2 16 g (newX 32) := ⟨hS0.step s2 (rng0 (by omega)), p2⟩
  clear hS0 s2 p2 hnew
  have hNd := new_any A m d w2
  go_wp2_with fail
  refine hNd.mono ?_
  rintro e w3 ⟨rfl, rfl⟩
  have T3 := DkX.start HP A2 hA
  generalize w2.heap.size = gd at *
  generalize w2.alloc (.cells #[.slice A m d, .int .i64 0] 69) = w3 at *
  clear hNd A2 hA
  generalize dye col2 (some gd) 1 = col3 at *
  have hE := entry_dk T3.ds.dk
  go_wp2_with fail
  refine hE.mono ?_
  rintro e w5 ⟨y, hy1, hy2, hy3, rfl, h5, g5⟩
  have T5 := T3.deck HP h5 g5
  clear T3 h5 g5 hE
  have b6 : Below w5.heap.size w5 (w5.alloc (.cells (VE y) 32)) := (Below.refl _ _).alloc (Nat.le_refl _) _
  have T6 := T5.below HP b6
  have X6 : BoxC col3 (w5.alloc (.cells (VE y) 32)) w5.heap.size 0 (VE y) 32 := ⟨heap_alloc_new w5 _, T5.tidy _ (Nat.le_refl _)⟩
  have hC := HP.put T6.px T6.tidy y (short_szx hy1) ⟨hy2.1, by omega⟩ ⟨hy3.1, by omega⟩
  rw [put_one (by omega) (decide_eq_true (by unfold topX; omega))] at hC
  have z0 : (w5.alloc (.cells (VE y) 32)).cell? ⟨w5.heap.size, 0, none⟩ = some (.string y.1) := X6.cell 0 rfl
  have z1 : (w5.alloc (.cells (VE y) 32)).cell? ⟨w5.heap.size, 1, none⟩ = some (.int .u64 y.2.1) := X6.cell 1 rfl
  have z2 : (w5.alloc (.cells (VE y) 32)).cell? ⟨w5.heap.size, 2, none⟩ = some (.int .u64 y.2.2) := X6.cell 2 rfl
  clear T5 b6
  go_wp2_with fail
  refine hC.mono ?_
  rintro e w7 ⟨rfl, col7, p7, s7⟩
  have T7 : DkX PX w gd A m d g col7 (oneX y.1 y.2.1 y.2.2) w7 := ⟨T6.ds.step s7 (by unfold Rng; omega) (rng0 (by omega)), p7⟩
  have X7 := X6.keep s7 (rng0 (by omega))
  generalize w5.heap.size = G at *
  have z3 : w7.cell? ⟨G, 1, none⟩ = some (.int .u64 y.2.1) := X7.cell 1 rfl
  clear T6 X6 p7 s7 hC z0 z1 z2
  go_wp2
  go_loopw [9, 10] (fun ov iv wr => ∃ (i : Nat) (own : Int) (col : Col), i ≤ p ∧ i ≤ 50 ∧ ov = .int .u64 own ∧ iv = .int .i64 (i : Int) ∧ (0 ≤ own ∧ own ≤ 30 + 65535 * (i : Int)) ∧ DkX PX w gd A m d g col (oneX y.1 own y.2.2) wr ∧ BoxC col wr G 0 (VE y) 32) (fun _ iv _ => p - (intOf iv).toNat)
  case atStart => exact ⟨0, y.2.1, col7, Nat.zero_le _, Nat.zero_le _, rfl, rfl, ⟨hy2.1, by omega⟩, T7, X7⟩
  case round =>
    clear T7 X7 z3
    obtain ⟨i, own, col, hip, hi5, rfl, rfl, hown, T, X⟩ := hrel
    by_cases hend : i < p ∧ i < 50
    · have hpi : (i : Int) < (p : Int) := by omega
      have h5i : (i : Int) < 50 := by omega
      obtain ⟨bB, oB, v, rfl, hv, hv0, hv1, cv⟩ := hW.at_ hend.1
      have hSh := short_dk T.ds.dk
      go_wp2_with fail
      refine hSh.mono ?_
      rintro e w8 ⟨s, hs, rfl, h8, g8⟩
      have T8 := T.deck HP h8 g8
      have X8 := X.grown g8 T.ds.dc
      clear T X h8 g8 hSh
      have z0 : w8.cell? ⟨G, 0, none⟩ = some (.string y.1) := X8.cell 0 rfl
      have cw : w8.cell? ⟨bB, oB + i, none⟩ = some (.int .u16 v) := (cellB cv T8.ds.since.below).1
      have hvw : IntKind.u64.wrap v = v := IntWalk.u64_in _ ⟨by omega, by omega⟩
      have how : IntKind.u64.wrap (own + v) = own + v := IntWalk.u64_in _ ⟨by omega, by omega⟩
      have hC := HP.add T8.px T8.tidy s v (short_szx hs) ⟨hv0, by omega⟩
      obtain ⟨ow2, how2⟩ : ∃ ow2, own + v = ow2 := ⟨_, rfl⟩
      by_cases hk : s = y.1
      · have hb : (s.toList == y.1.toList) = true := by rw [str_eq_en]; exact decide_eq_true hk
        rw [show (oneX y.1 own y.2.2).add s v = (0, oneX y.1 (own + v) y.2.2) by rw [hk]; exact add_one (by omega), how2] at hC
        have how3 : IntKind.u64.wrap (own + v) = ow2 := how.trans how2
        clear how
        have HO := Lib.hid (show 0 ≤ ow2 ∧ ow2 ≤ 30 + 65535 * ((i + 1 : Nat) : Int) by omega)
        clear hk how2 hown hv
        go_wp2_with fail
        refine hC.mono ?_
        rintro e w9 ⟨rfl, col9, p9, s9⟩
        have T9 : DkX PX w gd A m d g col9 (oneX y.1 ow2 y.2.2) w9 := ⟨T8.ds.step s9 (by unfold Rng; omega) (rng0 (by omega)), p9⟩
        have X9 := X8.keep s9 (rng0 (by omega))
        have z9 : w9.cell? ⟨G, 0, none⟩ = some (.string y.1) := X9.cell 0 rfl
        clear T8 X8 p9 s9 hC z0 cw
        have HT := Lib.hid (And.intro T9 X9)
        clear T9 X9
        go_wp2
        go_roundw
        case rel => exact ⟨i + 1, ow2, col9, by omega, by omega, rfl, by go_num, HO.out, HT.out.1, HT.out.2⟩
        case measure => (simp [intOf] <;> omega)
      · have hb : (s.toList == y.1.toList) = false := by rw [str_eq_en]; exact decide_eq_false hk
        rw [add_other hk] at hC
        have HO := Lib.hid (show 0 ≤ own ∧ own ≤ 30 + 65535 * ((i + 1 : Nat) : Int) by omega)
        clear hk how2 how hown hv
        go_wp2_with fail
        refine hC.mono ?_
        rintro e w9 ⟨rfl, col9, p9, s9⟩
        have T9 : DkX PX w gd A m d g col9 (oneX y.1 own y.2.2) w9 := ⟨T8.ds.step s9 (by unfold Rng; omega) (rng0 (by omega)), p9⟩
        have X9 := X8.keep s9 (rng0 (by omega))
        have z9 : w9.cell? ⟨G, 0, none⟩ = some (.string y.1) := X9.cell 0 rfl
        clear T8 X8 p9 s9 hC z0 cw
        have HT := Lib.hid (And.intro T9 X9)
        clear T9 X9
        go_wp2
        go_roundw
        case rel => exact ⟨i + 1, own, col9, by omega, by omega, rfl, by go_num, HO.out, HT.out.1, HT.out.2⟩
        case measure => (simp [intOf] <;> omega)
    · have hC := HP.get T.px T.tidy y.1 (short_szx hy1)
      rw [get_one] at hC
      have z0 : wr.cell? ⟨G, 0, none⟩ = some (.string y.1) := X.cell 0 rfl
      have hcs : ¬ (i : Int) < (p : Int) ∨ ((i : Int) < (p : Int) ∧ ¬ (i : Int) < 50) := by omega
      have hQ := eqIn_entry y.1 y.1 own own y.2.2 y.2.2
      rw [decide_eq_true rfl] at hQ
      clear hend
      rcases hcs with hpi | ⟨hpi, h5i⟩
      all_goals
        go_wp2_with fail
        refine hC.mono ?_
        rintro e w8 ⟨rfl, b8⟩
        have b9 : Below wr.heap.size wr (w8.alloc (.cells (VE (y.1, own, y.2.2)) 32)) := b8.alloc b8.size _
        have T9 := T.below HP b9
        have X9 := X.keepB b9 X.lt
        have y0 : (w8.alloc (.cells (VE (y.1, own, y.2.2)) 32)).cell? ⟨w8.heap.size, 0, none⟩ = some (.string y.1) := (World.cell?_alloc_at (w := w8) _ _ _ _ rfl).trans rfl
        have y1 : (w8.alloc (.cells (VE (y.1, own, y.2.2)) 32)).cell? ⟨w8.heap.size, 1, none⟩ = some (.int .u64 own) := (World.cell?_alloc_at (w := w8) _ _ _ _ rfl).trans rfl
        have y2 : (w8.alloc (.cells (VE (y.1, own, y.2.2)) 32)).cell? ⟨w8.heap.size, 2, none⟩ = some (.int .u64 y.2.2) := (World.cell?_alloc_at (w := w8) _ _ _ _ rfl).trans rfl
        have q0 : (w8.alloc (.cells (VE (y.1, own, y.2.2)) 32)).cell? ⟨G, 0, none⟩ = some (.string y.1) := X9.cell 0 rfl
        have q2 : (w8.alloc (.cells (VE (y.1, own, y.2.2)) 32)).cell? ⟨G, 2, none⟩ = some (.int .u64 y.2.2) := X9.cell 2 rfl
        have hLn := HP.len T9.px T9.tidy
        clear T X b8 b9 hC z0 X9
        go_wp2_with fail
        refine hLn.mono ?_
        rintro e w10 ⟨rfl, b10⟩
        have S10 := (T9.below HP b10).ds.since
        clear T9 hLn b10 y0 y1 y2 q0 q2 hQ
        have hl1 : (((oneX y.1 own y.2.2).l.length : Nat) : Int) = 1 := rfl
        go_wp2_with fail
        refine (xawake_any HP _).mono ?_
        rintro e WI ⟨rfl, hbI⟩
        have hb := (S10.belowL hbI).below
        clear S10 hbI
        go_wp2
        go_ret
        exact ⟨rfl, hb⟩
end Go.Proofs.Ytjkomnjkolggnaa
