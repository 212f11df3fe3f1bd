/- Words laid together in one text. Conditions: none beyond those typed. -/
import Derived.Test.YtenchaifnfgijaaAm
import Derived.Deep.RegionHeld3
/- The specified arena (heavykeysref08): slots in memory, Fit, Classes. Conditions: none beyond those typed. -/
namespace Go.Proofs.Ytenchaifnfgijaa
open Go.ChangeShapes Go.WideShapes Go.ChangeAt Go.RowKit
set_option linter.unusedVariables false
set_option linter.unusedSimpArgs false
set_option maxRecDepth 100000

/-- A slot in memory: the slot, and where its bytes lie. -/
abbrev RSl := Sl × Option Addr × Nat × Nat
def RSl.enc (r : RSl) : List Value := [.int .i64 r.1.c, .int .i64 r.1.i, .int .i64 r.1.a, .bool r.1.u, .slice r.2.1 r.2.2.1 r.2.2.2]
def kS : Kind RSl where
  ty := 98
  sl := 73
  k := 5
  by_ := 56
  zero := .agg #[.int .i64 0, .int .i64 0, .int .i64 0, .bool false, .slice none 0 0]
  enc := RSl.enc
  pos := by omega
  len := fun _ => rfl
  one := fun a u hu => by simp [RSl.enc] at hu; rcases hu with rfl | rfl | rfl | rfl | rfl <;> rfl
  under := Try.underlying73
  info := by kernel_rfl
  zk := rfl
  small := by omega
set_option maxHeartbeats 400000 in
theorem arFit (A : Option Addr) (n c : Nat) (L : List (Int × Int)) (z : Int) (w : World) (hR : RdG kC w A n c L) (hn : n ≤ 1000) (hz : -9223372036854775808 ≤ z ∧ z ≤ 9223372036854775807) (hL : ∀ x ∈ L, -9223372036854775808 ≤ x.1 ∧ x.1 ≤ 9223372036854775807) :
    Calls Try.prog 47 #[.slice A n c, .int .i64 z] w fun e w' => e = .returned (.tuple #[.int .i64 (fitR (fitP L z)).1, .int .i64 (fitR (fitP L z)).2]) ∧ Below w.heap.size w w' := by
  have hln := hR.len
  by_cases h1 : 1 ≤ z
  · have HP := Lib.hid (show fitP L z = fitI L z from if_pos h1)
    go_enter Try.func47, Try.ntmps47
    go_wp2
    go_loopw [12] (fun i wr => ∃ k : Nat, k ≤ n ∧ i = .int .i64 k ∧ fitI L z = (fitI (L.drop k) z).map (· + k) ∧ Below w.heap.size w wr) (fun i _ => n - (intOf i).toNat)
    case atStart => exact ⟨0, Nat.zero_le _, rfl, by simp, Below.refl _ _⟩
    case round =>
      obtain ⟨k, hk, rfl, hf, hB⟩ := hrel
      by_cases hlt : k < n
      · have hR' := hR.below hB
        obtain ⟨b, o, x1, x2, rfl, hx, hm, hb, c0, c1⟩ := hR'.atC hlt
        have hx' := hL _ hm
        rw [drop_at hx] at hf
        have HF := Lib.hid hf
        clear hf hR' hx hL hm
        by_cases hle : z ≤ x1
        · have HG := Lib.hid (show fitI L z = some k by rw [HF.out]; simp [fitI, hle])
          go_wp2
          go_ret2
          exact ⟨by rw [HP.out, HG.out]; rfl, hB.alloc hB.size _⟩
        · have HG := Lib.hid (show fitI L z = (fitI (L.drop (k + 1)) z).map (· + (k + 1)) by
            rw [HF.out]; simp [fitI, hle, Option.map_map]; congr 1; funext q; simp; omega)
          go_wp2
          go_roundw
          case rel => exact ⟨k + 1, by omega, by go_num, HG.out, hB.alloc hB.size _⟩
          case measure => (simp [intOf] <;> omega)
      · have HG := Lib.hid (show fitI L z = none by rw [hf, List.drop_of_length_le (by omega)]; rfl)
        clear hf
        go_wp2
        go_ret2
        exact ⟨by rw [HP.out, HG.out]; rfl, hB⟩
  · have HP := Lib.hid (show fitP L z = none from if_neg h1)
    go_enter Try.func47, Try.ntmps47
    go_wp2
    go_ret2
    exact ⟨by rw [HP.out]; rfl, Below.refl _ _⟩
/-- The size of the class before. -/
def prevC (L : List (Int × Int)) : Nat → Int
  | 0 => 0
  | k + 1 => (L.getD k (0, 0)).1
set_option maxHeartbeats 1000000 in
theorem arClasses (A : Option Addr) (n c : Nat) (L : List (Int × Int)) (w : World) (hR : RdG kC w A n c L) (hn : n ≤ 1000000) (hL : ∀ x ∈ L, -9223372036854775808 ≤ x.1 ∧ x.1 ≤ 9223372036854775807 ∧ -9223372036854775808 ≤ x.2 ∧ x.2 ≤ 9223372036854775807) :
    Calls Try.prog 31 #[.slice A n c] w fun e w' => e = .returned (.int .i64 (clsE L)) ∧ Below w.heap.size w w' := by
  have hln := hR.len
  by_cases h0 : n = 0
  · subst h0
    have HP := Lib.hid (show clsE L = 1 from if_pos (.inl hln))
    go_enter Try.func31, Try.ntmps31
    go_wp2
    go_ret
    exact ⟨ret_i64 HP.out.symm, Below.refl _ _⟩
  by_cases h8 : 8 < n
  · have HP := Lib.hid (show clsE L = 1 from if_pos (.inr (by omega)))
    have h8i : (8 : Int) < (n : Int) := by omega
    go_enter Try.func31, Try.ntmps31
    go_wp2
    go_ret
    exact ⟨ret_i64 HP.out.symm, Below.refl _ _⟩
  have h8i : ¬ (8 : Int) < (n : Int) := by omega
  have HP := Lib.hid (show clsE L = chkC 0 L from if_neg (by omega))
  clear hn
  go_enter Try.func31, Try.ntmps31
  go_wp2
  go_loopw [15] (fun i wr => ∃ k : Nat, k ≤ n ∧ i = .int .i64 k ∧ chkC 0 L = chkC (prevC L k) (L.drop k) ∧ Below w.heap.size w wr) (fun i _ => n - (intOf i).toNat)
  case atStart => exact ⟨0, Nat.zero_le _, rfl, by simp [prevC], Below.refl _ _⟩
  case round =>
    obtain ⟨k, hk, rfl, hf, hB⟩ := hrel
    by_cases hlt : k < n
    · have hR' := hR.below hB
      obtain ⟨b, o, x1, x2, rfl, hx, hm, hb, c0, c1⟩ := hR'.atC hlt
      obtain ⟨p1, p2, p3, p4⟩ := hL _ hm
      have HN := Lib.hid (show prevC L (k + 1) = x1 by simp [prevC, hx])
      rw [drop_at hx] at hf
      have HF := Lib.hid hf
      clear hf hx hL hm
      by_cases q1 : x1 < 1
      · have HG := Lib.hid (show chkC 0 L = 1 by rw [HF.out]; simp [chkC, q1])
        clear hR'
        go_wp2
        go_ret
        exact ⟨ret_i64 (by rw [HP.out, HG.out]), hB.alloc hB.size _⟩
      by_cases q2 : 4096 < x1
      · have HG := Lib.hid (show chkC 0 L = 1 by rw [HF.out]; simp [chkC, q1, q2])
        clear hR'
        go_wp2
        go_ret
        exact ⟨ret_i64 (by rw [HP.out, HG.out]), hB.alloc hB.size _⟩
      by_cases q3 : x2 < 0
      · have HG := Lib.hid (show chkC 0 L = 1 by rw [HF.out]; simp [chkC, q1, q2, q3])
        clear hR'
        go_wp2
        go_ret
        exact ⟨ret_i64 (by rw [HP.out, HG.out]), hB.alloc hB.size _⟩
      by_cases q4 : 65536 < x2
      · have HG := Lib.hid (show chkC 0 L = 1 by rw [HF.out]; simp [chkC, q1, q2, q3, q4])
        clear hR'
        go_wp2
        go_ret
        exact ⟨ret_i64 (by rw [HP.out, HG.out]), hB.alloc hB.size _⟩
      cases k with
      | zero =>
        have HG := Lib.hid (show chkC 0 L = chkC x1 (L.drop (0 + 1)) by
          rw [HF.out]; conv => lhs; unfold chkC
          rw [if_neg (by simp only; omega), if_neg (by simp only [prevC]; omega)])
        simp only [Nat.zero_mul, Nat.add_zero] at c0 c1
        clear hR'
        go_wp2
        go_quiet (fail)
        go_wp2
        go_roundw
        case rel => exact ⟨0 + 1, by omega, by go_num, by rw [HN.out]; exact HG.out, below_drewN (hB.alloc hB.size _) _⟩
        case measure => (simp [intOf] <;> omega)
      | succ m =>
        obtain ⟨b', o', y1, y2, e', hy, _, _, d0, d1⟩ := hR'.atC (j := m) (by omega)
        injection e' with e'; injection e' with e1 e2; subst e1 e2
        have HY := Lib.hid (show prevC L (m + 1) = y1 by simp [prevC, hy])
        clear hR' hy d1
        by_cases q5 : x1 ≤ y1
        · have HG := Lib.hid (show chkC 0 L = 6 by rw [HF.out, HY.out]; unfold chkC; rw [if_neg (by simp only; omega), if_pos q5])
          go_wp2
          go_quiet (fail)
          go_wp2
          go_ret
          exact ⟨ret_i64 (by rw [HP.out, HG.out]), below_drewN (hB.alloc hB.size _) _⟩
        · have HG := Lib.hid (show chkC 0 L = chkC x1 (L.drop (m + 1 + 1)) by rw [HF.out, HY.out]; conv => lhs; unfold chkC
                                                                              rw [if_neg (by simp only; omega), if_neg q5])
          go_wp2
          go_quiet (fail)
          go_wp2
          go_roundw
          case rel => exact ⟨m + 1 + 1, by omega, by go_num, by rw [HN.out]; exact HG.out, below_drewN (hB.alloc hB.size _) _⟩
          case measure => (simp [intOf] <;> omega)
    · have HG := Lib.hid (show chkC 0 L = 0 by rw [hf, List.drop_of_length_le (by omega)]; rfl)
      clear hf hL
      go_wp2
      go_ret
      exact ⟨ret_i64 (by rw [HP.out, HG.out]), hB⟩
end Go.Proofs.Ytenchaifnfgijaa

/- The specified arena in memory: what holds of its blocks, and the search for a live handle. Conditions: none beyond those typed. -/
namespace Go.Proofs.Ytenchaifnfgijaa
open Go.ChangeShapes Go.WideShapes Go.ChangeAt Go.RowKit
set_option linter.unusedVariables false
set_option linter.unusedSimpArgs false
set_option maxRecDepth 100000

def ints (l : List Nat) : List Int := l.map Int.ofNat
/-- The specified arena x lies in block g, in the colours from k on. -/
structure RefB (col : Col) (k : Nat) (w : World) (g : Nat) (x : ASt) (AL : Option Addr) (cL : Nat) (vS vF vN : Value) (R : List RSl) : Prop where
  box : BoxC col w g k #[.slice AL x.L.length cL, vS, vF, vN, .int .i64 (x.fa : Int)] 75
  cls : RdK0 kC col w AL x.L.length cL x.L
  sl : OwnKc kS col w (k + 1) vS R
  fst : R.map Prod.fst = x.s
  tells : ∀ r ∈ R, Rd0 col w r.2.1 r.2.2.1 r.2.2.2 r.1.b
  fr : OwnKc kI col w (k + 2) vF (ints x.f)
  nx : OwnKc kI col w (k + 3) vN (ints x.nx)
  k1 : 1 ≤ k
/-- The specified arena x lies in block g. -/
def RefA (col : Col) (k : Nat) (w : World) (g : Nat) (x : ASt) : Prop := GoodA x ∧ ∃ AL cL vS vF vN R, RefB col k w g x AL cL vS vF vN R
section
variable {P : Nat → Prop} {col col' : Col} {w w' : World} {k g : Nat} {x : ASt} {AL : Option Addr} {cL : Nat} {vS vF vN : Value} {R : List RSl}
theorem rng_no {c : Nat} (hk : 1 ≤ k) : ¬ Rng k 0 := fun h => by have := h.1; omega
theorem RefB.keep (h : RefB col k w g x AL cL vS vF vN R) (hs : StepC P col w col' w') (hp : ∀ c, Rng k c → ¬ P c) (h0 : ¬ P 0) : RefB col' k w' g x AL cL vS vF vN R :=
  ⟨h.box.keep hs (hp _ ⟨Nat.le_refl _, by omega⟩), h.cls.keep hs h0, h.sl.keep hs (hp _ ⟨by omega, by omega⟩), h.fst, fun r hr => (h.tells r hr).keep hs h0, h.fr.keep hs (hp _ ⟨by omega, by omega⟩), h.nx.keep hs (hp _ ⟨by omega, by omega⟩), h.k1⟩
theorem RefA.keep (h : RefA col k w g x) (hs : StepC P col w col' w') (hp : ∀ c, Rng k c → ¬ P c) (h0 : ¬ P 0) : RefA col' k w' g x := by
  obtain ⟨hg, _, _, _, _, _, _, h⟩ := h
  exact ⟨hg, _, _, _, _, _, _, h.keep hs hp h0⟩
theorem RefB.below (h : RefB col k w g x AL cL vS vF vN R) (ht : Tidy col w) (hb : Below w.heap.size w w') : RefB col k w' g x AL cL vS vF vN R := h.keep (P := fun _ => False) (StepC.below ht hb) (fun _ _ h => h) (fun h => h)
theorem RefB.len (h : RefB col k w g x AL cL vS vF vN R) : R.length = x.s.length := by rw [← h.fst, List.length_map]
theorem RefB.at_ (h : RefB col k w g x AL cL vS vF vN R) {j : Nat} {r : RSl} (hr : R[j]? = some r) : x.s[j]? = some r.1 := by rw [← h.fst, List.getElem?_map, hr]; rfl
theorem kS_cells {n c b j : Nat} {y : Sl} {A' : Option Addr} {n' c' : Nat} (h : OwnK kS w (.slice (some ⟨b, 0, none⟩) n c) R) (hr : R[j]? = some (y, A', n', c')) :
    w.cell? ⟨b, j * 5, none⟩ = some (.int .i64 y.c) ∧ w.cell? ⟨b, j * 5 + 1, none⟩ = some (.int .i64 y.i) ∧ w.cell? ⟨b, j * 5 + 2, none⟩ = some (.int .i64 y.a) ∧ w.cell? ⟨b, j * 5 + 3, none⟩ = some (.bool y.u) ∧ w.cell? ⟨b, j * 5 + 4, none⟩ = some (.slice A' n' c') :=
  ⟨h.cell hr (i := 0) rfl, h.cell hr (i := 1) rfl, h.cell hr (i := 2) rfl, h.cell hr (i := 3) rfl, h.cell hr (i := 4) rfl⟩
theorem RefB.cells (h : RefB col k w g x AL cL vS vF vN R) : w.cell? ⟨g, 0, none⟩ = some (.slice AL x.L.length cL) ∧ w.cell? ⟨g, 1, none⟩ = some vS ∧ w.cell? ⟨g, 2, none⟩ = some vF ∧ w.cell? ⟨g, 3, none⟩ = some vN ∧ w.cell? ⟨g, 4, none⟩ = some (.int .i64 (x.fa : Int)) :=
  ⟨h.box.cell 0 rfl, h.box.cell 1 rfl, h.box.cell 2 rfl, h.box.cell 3 rfl, h.box.cell 4 rfl⟩
/-- A fault is counted. -/
theorem RefB.fault (h : RefB col k w g x AL cL vS vF vN R) (ht : Tidy col w) : RefB col k (w.setCell ⟨g, 4, none⟩ (.int .i64 ((x.fa : Int) + 1))) g x.fault AL cL vS vF vN R ∧ StepC (Rng k) col w col (w.setCell ⟨g, 4, none⟩ (.int .i64 ((x.fa : Int) + 1))) := by
  have hP : Rng k (col g) := by rw [h.box.col]; exact ⟨Nat.le_refl _, by omega⟩
  have hs : StepC (fun c => c = k) col w col (w.setCell ⟨g, 4, none⟩ (.int .i64 ((x.fa : Int) + 1))) := StepC.set ht h.box.col _
  have h0 : ¬ (0 = k) := by have := h.k1; omega
  refine ⟨⟨?_, h.cls.keep hs h0, h.sl.keep hs (by omega), h.fst, fun r hr => (h.tells r hr).keep hs h0, h.fr.keep hs (by omega), h.nx.keep hs (by omega), h.k1⟩, StepC.set ht hP _⟩
  have := h.box.put 4 (.int .i64 ((x.fa : Int) + 1))
  have e : (x.fault.fa : Int) = (x.fa : Int) + 1 := by simp [ASt.fault]
  show BoxC _ _ _ _ #[.slice AL x.L.length cL, vS, vF, vN, .int .i64 (x.fault.fa : Int)] _
  rw [e]
  simpa using this
end
theorem fields_handle : Try.prog.underlying 81 = some (.struct (Try.prog.fieldsOf 81)) := by
  unfold Program.fieldsOf; rw [Try.underlying81]
/-- == on handles. -/
theorem eqIn_h (p q r p' q' r' : Int) (w : World) : (Op.equalIn 10000 81 (.agg #[.int .i64 p, .int .i64 q, .int .i64 r]) (.agg #[.int .i64 p', .int .i64 q', .int .i64 r'])).run Try.prog w = .ok (decide (((p, q, r) : Hd) = (p', q', r'))) w := by
  have h8 := fun w => Try.isAgg3 w
  rw [run_equalIn_agg w 9999 _ _ _ fields_handle (by kernel_rfl)]
  unfold Program.fieldsOf
  rw [Try.underlying81]
  have e8 : ∀ (a b : Int) w, (Op.equalIn 9999 3 (.int .i64 a) (.int .i64 b)).run Try.prog w = .ok (a == b) w := fun a b w => run_equalIn_int (P := Try.prog) w 9998 3 .i64 .i64 a b Try.underlying3
  simp [Op.eqFields, part, h8]
  simp only [e8, Result.andThen]
  by_cases hp : p = p'
  · by_cases hq : q = q'
    · by_cases hr : r = r' <;> simp [hp, hq, hr, e8]
    · simp [hp, hq, e8]
  · simp [hp]
def findR : Option Nat → Int
  | some i => (i : Int)
  | none => -1
def findX (x : ASt) : Option Nat → ASt
  | some _ => x
  | none => x.fault
theorem find_step {x : ASt} {h : Hd} {k : Nat} {y : Sl} (hf : x.find h = ((x.s.drop k).findIdx? fun y => y.u && decide (y.h = h)).map (· + k)) (hy : x.s[k]? = some y) :
    (y.u = true ∧ y.h = h → x.find h = some k) ∧ (¬ (y.u = true ∧ y.h = h) → x.find h = ((x.s.drop (k + 1)).findIdx? fun y => y.u && decide (y.h = h)).map (· + (k + 1))) := by
  rw [drop_at hy, List.findIdx?_cons] at hf
  refine ⟨fun hh => ?_, fun hh => ?_⟩
  · rw [hf]; simp [hh.1, hh.2]
  · rw [hf, if_neg (by simp; exact fun h1 h2 => hh ⟨h1, h2⟩), Option.map_map]
    congr 1; funext q; simp; omega
set_option maxHeartbeats 1000000 in
theorem arFind {col : Col} {k g : Nat} {w : World} {x : ASt} {AL : Option Addr} {cL : Nat} {vS vF vN : Value} {R : List RSl} (H : RefB col k w g x AL cL vS vF vN R) (hG : GoodA x) (ht : Tidy col w) (h : Hd) (hlt : x.t ≤ 1000000000) :
    Calls Try.prog 48 #[.pointer (some ⟨g, 0, none⟩), .agg #[.int .i64 h.1, .int .i64 h.2.1, .int .i64 h.2.2]] w
      fun e w' => e = .returned (.int .i64 (findR (x.find h))) ∧ RefB col k w' g (findX x (x.find h)) AL cL vS vF vN R ∧ StepC (Rng k) col w col w' := by
  obtain ⟨p, q, r⟩ := h
  have hfew := hG.few
  have hfa := hG.fa
  have hlen := H.len
  obtain ⟨AS, cS, rfl, hrS, _⟩ := H.sl.own.form (n := x.s.length) hlen
  have hcapS := hrS.cap
  have hmaxS := hrS.max
  obtain ⟨x0, x1, x2, x3, x4⟩ := H.cells
  have y0 : ∀ o, (w.alloc o).cell? ⟨g, 1, none⟩ = some (.slice AS x.s.length cS) := fun o => (((Below.refl _ _).alloc (Nat.le_refl _) o).cell H.box.lt).trans x1
  have hB1 : Below w.heap.size w (w.alloc (.cells #[.int .i64 p, .int .i64 q, .int .i64 r] 81)) := (Below.refl _ _).alloc (Nat.le_refl _) _
  have b0 : (w.alloc (.cells #[.int .i64 p, .int .i64 q, .int .i64 r] 81)).cell? ⟨w.heap.size, 0, none⟩ = some (.int .i64 p) := by rw [World.cell?_alloc_at _ _ _ _ rfl]; rfl
  have b1 : (w.alloc (.cells #[.int .i64 p, .int .i64 q, .int .i64 r] 81)).cell? ⟨w.heap.size, 1, none⟩ = some (.int .i64 q) := by rw [World.cell?_alloc_at _ _ _ _ rfl]; rfl
  have b2 : (w.alloc (.cells #[.int .i64 p, .int .i64 q, .int .i64 r] 81)).cell? ⟨w.heap.size, 2, none⟩ = some (.int .i64 r) := by rw [World.cell?_alloc_at _ _ _ _ rfl]; rfl
  clear hrS x0 x1 x2 x3 x4
  go_enter Try.func48, Try.ntmps48
  go_wp2
  obtain ⟨W1, hW1⟩ : ∃ W1, W1 = w.alloc (.cells #[.int .i64 p, .int .i64 q, .int .i64 r] 81) := ⟨_, rfl⟩
  rw [← hW1] at b0 b1 b2 hB1 ⊢
  have H1 := H.below ht hB1
  have ht1 := ht.size hB1.size
  have hS1 : StepC (Rng k) col w col W1 := StepC.below ht hB1
  obtain ⟨x0, x1, x2, x3, x4⟩ := H1.cells
  clear hW1 y0 x0 x2 x3
  go_loopw [11] (fun i wr => ∃ m j : Nat, m ≤ x.s.length ∧ i = .int .i64 m ∧ x.find (p, q, r) = ((x.s.drop m).findIdx? fun y => y.u && decide (y.h = (p, q, r))).map (· + m) ∧ wr = W1.drewN j) (fun i _ => x.s.length - (intOf i).toNat)
  case atStart => exact ⟨0, 0, Nat.zero_le _, rfl, by simp [ASt.find], rfl⟩
  case round =>
    obtain ⟨m, j, hm, rfl, hf, rfl⟩ := hrel
    by_cases hml : m < x.s.length
    · obtain ⟨⟨y, A', n', c'⟩, hr⟩ : ∃ r, R[m]? = some r := ⟨_, List.getElem?_eq_getElem (by omega)⟩
      obtain ⟨bS, rfl, hbS⟩ := H1.sl.own.head (by omega)
      obtain ⟨s0, s1, s2, s3, s4⟩ := kS_cells H1.sl.own hr
      obtain ⟨f1, f2⟩ := find_step hf (H.at_ hr)
      obtain ⟨yc, yi, ya, yu, yb⟩ := y
      have F1 := Lib.hid f1
      have F2 := Lib.hid f2
      have HH := Lib.hid H1
      clear f1 f2 hf hr H H1 s4
      simp only at s0 s1 s2 s3
      cases yu with
      | false =>
        clear s0 s1 s2
        go_wp2
        go_quiet (fail)
        go_wp2
        go_roundw
        case rel => exact ⟨m + 1, _, by omega, by go_num, F2.out (by simp), rfl⟩
        case measure => (simp [intOf] <;> omega)
      | true =>
        by_cases he : (((yc : Int), (yi : Int), (ya : Int)) : Hd) = (p, q, r)
        · have hQ := fun w => eqIn_h (yc : Int) (yi : Int) (ya : Int) p q r w
          rw [decide_eq_true he] at hQ
          have HE := Lib.hid (F1.out ⟨rfl, he⟩)
          clear he
          go_wp2
          go_quiet (fail)
          go_wp2
          go_ret
          refine ⟨ret_i64 (by rw [HE.out]; rfl), ?_⟩
          rw [HE.out]
          have hb := below_drewN (below_drewN (Below.refl W1.heap.size W1) j) nq
          exact ⟨HH.out.below ht1 hb, hS1.trans (StepC.below ht1 hb)⟩
        · have hQ := fun w => eqIn_h (yc : Int) (yi : Int) (ya : Int) p q r w
          rw [decide_eq_false he] at hQ
          have HE := Lib.hid (F2.out (fun h => he h.2))
          clear he
          go_wp2
          go_quiet (fail)
          go_wp2
          go_roundw
          case rel => exact ⟨m + 1, _, by omega, by go_num, HE.out, rfl⟩
          case measure => (simp [intOf] <;> omega)
    · have HG := Lib.hid (show x.find (p, q, r) = none by rw [hf, List.drop_of_length_le (by omega)]; rfl)
      have f4 := H1.box.free 4
      clear hf
      have hb := below_drewN (Below.refl W1.heap.size W1) j
      have ht2 := ht1.size hb.size
      have H2 := (H1.below ht1 hb).fault ht2
      have hS2 := hS1.trans ((StepC.below ht1 hb).trans H2.2)
      go_wp2
      go_ret
      refine ⟨ret_i64 (by rw [HG.out]; rfl), ?_⟩
      rw [HG.out]
      exact ⟨H2.1, hS2⟩
end Go.Proofs.Ytenchaifnfgijaa
