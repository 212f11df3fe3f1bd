/- The statements about package bounds: BoundsSort. Conditions: the program's bounds keep their contracts (ProgBd, ProgBf, ProgSt). -/
import Derived.Test.YtbdafhephmoedaaObawake
import Derived.Test.YtbdafhephmoedaaLndeck
import Derived.Deep.CutRange
namespace Go.Proofs.Ytbdafhephmoedaa
open Go.ChangeShapes Go.WideShapes Go.ChangeAt Go.RowKit
set_option linter.unusedVariables false
set_option linter.unusedSimpArgs false
set_option maxRecDepth 100000

/-- A slice of lines, few. -/
def FewL (W : World) (G k : Nat) : Prop := ∃ A n c L, W.cell? ⟨G, k, none⟩ = some (.slice A n c) ∧ RdG kLn W A n c L ∧ n ≤ 80
set_option maxHeartbeats 4000000 in
theorem boundsSort_walk (HB : ProgBd) (HF : ProgBf) (HS : ProgSt) (A0 : Option Addr) (n0 c0 : Nat) (A : Option Addr) (m d : Nat) (w : World) (h0 : ∃ L, RdG kLn w A0 n0 c0 L) (hA : RdI w A m d) :
    Calls Try.prog 4 #[.slice A0 n0 c0, .slice A m d] w (Yes w) := by
  obtain ⟨L0, hL0⟩ := h0
  have hcap0 := hL0.cap
  have hmax0 := hL0.max
  by_cases h80 : 80 < n0
  · have h80I : (n0 : Int) > 80 := by omega
    clear hL0 hA
    go_enter Try.func4, Try.ntmps4
    go_wp2_with fail
    refine (bawake_any HB HS _).mono ?_
    rintro e w9 ⟨rfl, b9⟩
    go_wp2
    go_ret
    exact ⟨rfl, b9⟩
  have h80I : ¬ (n0 : Int) > 80 := by omega
  have hNd := new_any A m d w
  have hDk := Dk.new hA
  go_enter Try.func4, Try.ntmps4
  go_wp2_with fail
  refine hNd.mono ?_
  rintro e w2 ⟨rfl, rfl⟩
  go_wp2_with fail
  refine (lines_dk hDk).mono ?_
  rintro e w3 ⟨A3, n3, c3, L, rfl, hn3, hR3, hnew, hF3, hD3, hG3⟩
  have hb3 := hD3.low
  have b4 : Below w3.heap.size w3 (w3.alloc (.cells #[.slice A0 n0 c0, .slice A3 n3 c3] 33)) := (Below.refl _ _).alloc (Nat.le_refl _) _
  have F0 : FewL (w3.alloc (.cells #[.slice A0 n0 c0, .slice A3 n3 c3] 33)) w3.heap.size 0 := ⟨A0, n0, c0, L0, (World.cell?_alloc_at (w := w3) _ _ _ _ rfl).trans rfl, (hL0.below hb3).below b4, by omega⟩
  have F1 : FewL (w3.alloc (.cells #[.slice A0 n0 c0, .slice A3 n3 c3] 33)) w3.heap.size 1 := ⟨A3, n3, c3, L, (World.cell?_alloc_at (w := w3) _ _ _ _ rfl).trans rfl, hR3.below b4, by omega⟩
  have HBl := Lib.hid (below_then hb3 b4)
  have HFw := Lib.hid (And.intro F0 F1)
  clear hNd hDk hnew hF3 hG3 hD3 hb3 b4 F0 F1 hR3 hL0 hA
  go_wp2
  generalize w3.alloc (.cells #[.slice A0 n0 c0, .slice A3 n3 c3] 33) = w4 at *
  generalize w3.heap.size = G at *
  go_loopw [20] (fun iv wr => ∃ k : Nat, k ≤ 2 ∧ iv = .int .i64 (k : Int) ∧ Below w4.heap.size w4 wr) (fun iv _ => 2 - (intOf iv).toNat)
  case atStart => exact ⟨0, by omega, rfl, Below.refl _ _⟩
  case round =>
    obtain ⟨k, hk, rfl, hb⟩ := hrel
    by_cases hlt : k < 2
    · have hkI : (k : Int) < 2 := by omega
      have hFk : FewL w4 G k := by
        rcases Nat.lt_or_ge k 1 with h | h
        · obtain rfl : k = 0 := by omega
          exact HFw.out.1
        · obtain rfl : k = 1 := by omega
          exact HFw.out.2
      obtain ⟨Ax, n, c, Lx, hcell, hRx, hn⟩ := hFk
      have hck := (cellB hcell hb).1
      have hRr := hRx.below hb
      have hcapx := hRx.cap
      have hmaxx := hRx.max
      have hC1 := HS.sort hRr (by omega)
      have HRx := Lib.hid hRr
      have HBw := Lib.hid hb
      clear hcell hRx hRr hb
      go_wp2_with fail
      refine hC1.mono ?_
      rintro e w5 ⟨A5, c5, L5, rfl, hM5, hR5, b5⟩
      have hC2 := rsortL_any (HRx.out.below b5) (by omega)
      clear hC1
      go_wp2_with fail
      refine hC2.mono ?_
      rintro e w6 ⟨A6, c6, L6, rfl, hM6, hR6, b6⟩
      obtain rfl : L5 = L6 := srtL_one hM5.srt hM6.srt (hM5.sm.symm.trans hM6.sm)
      have hC3 := sameLines_yes A5 A6 n c5 c6 L5 w6 (hR5.below b6) hR6
      clear hC2 hM5 hM6 hR5 hR6
      go_wp2_with fail
      refine hC3.mono ?_
      rintro e w7 ⟨rfl, b7⟩
      have B7 := Lib.hid (below_then (below_then b5 b6) b7)
      clear hC3 b5 b6 b7 hck
      go_wp2
      go_loopw [8] (fun jv wx => ∃ j : Nat, 1 ≤ j ∧ (j ≤ n ∨ j = 1) ∧ jv = .int .i64 (j : Int) ∧ Below wr.heap.size wr wx) (fun jv _ => n - (intOf jv).toNat)
      case atStart => exact ⟨1, Nat.le_refl _, .inr rfl, rfl, B7.out⟩
      case round =>
        clear B7
        rename World => w7
        obtain ⟨j, hj1, hjn, rfl, hb8⟩ := hrel
        rename World => w8
        by_cases hjl : j < n
        · have hjI : (j : Int) < (n : Int) := by omega
          obtain ⟨j', rfl⟩ : ∃ j', j = j' + 1 := ⟨j - 1, by omega⟩
          have hw1 : IntKind.i64.wrap (((j' + 1 : Nat) : Int) - 1) = (j' : Int) := by rw [IntKind.wrap_i64]; omega
          have hj'I : (j' : Int) < (n : Int) := by omega
          have hR8 := HRx.out.below hb8
          obtain ⟨bx, ox, p, hAx, hp, p0, p1, p2⟩ := hR8.atLn (j := j') (by omega)
          obtain ⟨by_, oy, q, hAy, hq, q0, q1, q2⟩ := hR8.atLn (j := j' + 1) hjl
          subst hAx
          injection hAy with hAy; injection hAy with y1 y2; subst y1 y2
          have HB8 := Lib.hid hb8
          have hne : (lnB p q != lnB p q) = false := by simp
          obtain ⟨K, hK⟩ : ∃ K, j' + 1 = K := ⟨_, rfl⟩
          rw [hK] at hw1 hjI q0 q1 q2
          have hw2 : IntKind.i64.wrap ((K : Int) + 1) = ((K + 1 : Nat) : Int) := by rw [IntKind.wrap_i64]; omega
          rw [hK]
          clear hR8 hp hq hb8
          go_wp2
          go_region_held3 (fun W => W.cell? ⟨bx, ox + j' * 3, none⟩ = some (.string p.1) ∧ W.cell? ⟨bx, ox + j' * 3 + 1, none⟩ = some (.int .u64 p.2.1) ∧ W.cell? ⟨bx, ox + j' * 3 + 2, none⟩ = some (.int .u64 p.2.2) ∧ W.cell? ⟨bx, ox + K * 3, none⟩ = some (.string q.1) ∧ W.cell? ⟨bx, ox + K * 3 + 1, none⟩ = some (.int .u64 q.2.1) ∧ W.cell? ⟨bx, ox + K * 3 + 2, none⟩ = some (.int .u64 q.2.2)) (first | exact ⟨p0, p1, p2, q0, q1, q2⟩ | exact ⟨(cellB p0 d2).1, (cellB p1 d2).1, (cellB p2 d2).1, (cellB q0 d2).1, (cellB q1 d2).1, (cellB q2 d2).1⟩ | exact ⟨(cellB p0 d1).1, (cellB p1 d1).1, (cellB p2 d1).1, (cellB q0 d1).1, (cellB q1 d1).1, (cellB q2 d1).1⟩) (first | (go_at_call 21; refine (HF.before p q _).mono ?_; rintro e5 w9 ⟨rfl, h9⟩; have d1 := below_then (bdM w8) h9) | (go_at_call 22; refine (rBefore_any p q _).mono ?_; rintro e5 w10 ⟨rfl, h10⟩; have d2 := below_then d1 h10))
          all_goals
            have hE := Lib.hid (below_then HB8.out d2)
            clear d1 d2 h9 h10 p0 p1 p2 q0 q1 q2 HB8
            go_wp2
            go_roundw
            case rel => exact ⟨K + 1, by omega, .inl (by omega), by go_num, hE.out⟩
            case measure => (simp [intOf] <;> omega)
        · have hjI : ¬ (j : Int) < (n : Int) := by omega
          have hE := Lib.hid (below_then HBw.out hb8)
          have hwk : IntKind.i64.wrap ((k : Int) + 1) = ((k + 1 : Nat) : Int) := by rw [IntKind.wrap_i64]; omega
          clear hb8
          go_wp2
          go_roundw
          case rel => exact ⟨k + 1, by omega, by go_num, hE.out⟩
          case measure => (simp [intOf] <;> omega)
    · have hkI : ¬ (k : Int) < 2 := by omega
      have hB9 := Lib.hid (below_then HBl.out hb)
      clear hb
      go_wp2_with fail
      refine (bawake_any HB HS _).mono ?_
      rintro e w9 ⟨rfl, b9⟩
      have hE := Lib.hid (below_then hB9.out b9)
      clear b9
      go_wp2
      go_ret
      exact ⟨rfl, hE.out⟩
end Go.Proofs.Ytbdafhephmoedaa
