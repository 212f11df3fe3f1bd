/- The statements about package exact: ExactLeast. Conditions: the program's stores keep their contracts (ProgX). -/
import Derived.Test.YtjkomnjkolggnaaOxdeck
import Derived.Laws.Cover1
namespace Go.Proofs.Ytjkomnjkolggnaa
open Go.ChangeShapes Go.WideShapes Go.ChangeAt Go.RowKit
set_option linter.unusedVariables false
set_option linter.unusedSimpArgs false
set_option maxRecDepth 100000

set_option maxHeartbeats 8000000 in
theorem exactLeast_walk {PX : RepX} (HP : ProgX PX) (A : Option Addr) (m d : Nat) (w : World) (hA : RdI w A m d) :
    Calls Try.prog 6 #[.slice A m d] w (Yes w) := by
  have hS0 := Since.start w
  have hnew := HP.new (k := 16) hS0.tidy (by omega) 32 (by unfold J64; omega)
  go_enter Try.func6, Try.ntmps6
  go_wp2_with fail
  refine hnew.mono ?_
  rintro e w2 (⟨_, g, rfl, col2, p2, s2⟩ | ⟨h0, _⟩)
  rotate_left
  · exact absurd h0 (show ¬ xsE 32 = 1 by decide)
  have A2 : AtX PX w col2 w2 16 g (newX 32) := ⟨hS0.step s2 (rng0 (by omega)), p2⟩
  clear hS0 s2 p2 hnew
  have hNd := new_any A m d w2
  go_wp2_with fail
  refine hNd.mono ?_
  rintro e w3 ⟨rfl, rfl⟩
  have T3 := DkX.start HP A2 hA
  generalize w2.heap.size = gd at *
  generalize w2.alloc (.cells #[.slice A m d, .int .i64 0] 69) = w3 at *
  clear hNd A2 hA
  have hNx := next_dk T3.ds.dk 20 (by omega) (by omega)
  go_wp2_with fail
  refine hNx.mono ?_
  rintro e w4 ⟨r, hr, rfl, h4, g4⟩
  have T4 := T3.deck HP h4 g4
  clear T3 h4 g4 hNx
  go_wp2
  go_loopw [6] (fun kv wr => ∃ (k : Nat) (col : Col) (t : ExSt), k ≤ 20 ∧ kv = .int .i64 (k : Int) ∧ DkX PX w gd A m d g col t wr ∧ ∀ z ∈ t.l, Sz z.1) (fun kv _ => (intOf kv).toNat)
  case atStart => exact ⟨r, _, _, by omega, rfl, T4, fun z hz => by cases hz⟩
  case round =>
    clear T4 hr
    obtain ⟨k, col, t, hk, rfl, T, hSz⟩ := hrel
    by_cases hk0 : 0 < k
    · have hkI : (k : Int) > 0 := by omega
      have hE := entry_dk T.ds.dk
      go_wp2_with fail
      refine hE.mono ?_
      rintro e w5 ⟨y, hy1, hy2, hy3, rfl, h5, g5⟩
      have T5 := T.deck HP h5 g5
      clear T h5 g5 hE
      have hC := HP.put T5.px T5.tidy y (short_szx hy1) ⟨hy2.1, by omega⟩ ⟨hy3.1, by omega⟩
      go_wp2_with fail
      refine hC.mono ?_
      rintro e w6 ⟨rfl, hd⟩
      obtain ⟨col6, T6⟩ := T5.did hd
      obtain ⟨k', rfl⟩ : ∃ k', k = k' + 1 := ⟨k - 1, by omega⟩
      clear T5 hC hd
      go_wp2
      go_roundw
      case rel => exact ⟨k', _, _, by omega, by go_num, T6, fun z hz => (putX_mem hz).elim (hSz z) fun h => by rw [h]; exact short_szx hy1⟩
      case measure => (simp [intOf] <;> omega)
    · obtain rfl : k = 0 := by omega
      have hG := HP.good T.px
      obtain ⟨x, b, hL, hgt, hbb, hbf, hbt, hz⟩ := hG.leastOk
      have hxS : Sz x.1 := by
        cases b with
        | false => rw [hbf rfl]; exact (show Sz ⟨#[]⟩ from Nat.zero_le _)
        | true => exact hSz x (hbt rfl)
      have hx2 : 0 ≤ x.2.1 ∧ 0 ≤ x.2.2 ∧ x.2.1 + x.2.2 ≤ 9223372036854775808 := by
        cases b with
        | false => rw [hbf rfl]; exact ⟨Int.le_refl _, Int.le_refl _, by decide⟩
        | true => obtain ⟨q1, q2, _, _, q5, _⟩ := hG.ct (hbt rfl); exact ⟨q1, q2, q5⟩
      clear hk hk0
      obtain ⟨n, hn⟩ : ∃ n, t.l.length = n := ⟨_, rfl⟩
      have hct : ∀ z ∈ t.l, 0 ≤ z.2.1 ∧ 0 ≤ z.2.2 ∧ z.2.1 + z.2.2 ≤ 9223372036854775808 := fun z hz => by
        obtain ⟨q1, q2, _, _, q5, _⟩ := hG.ct hz
        exact ⟨q1, q2, q5⟩
      have hC := HP.least T.px T.tidy
      rw [hL] at hC
      go_wp2_with fail
      refine hC.mono ?_
      rintro e w6 ⟨rfl, b6⟩
      have b7 : Below wr.heap.size wr (w6.alloc (.cells (VE x) 32)) := b6.alloc b6.size _
      have X7 : BoxN (w6.alloc (.cells (VE x) 32)) w6.heap.size (VE x) 32 := ⟨heap_alloc_new w6 _, rfl⟩
      have T7 := T.below HP b7
      clear b6 b7 hC T
      have hC := HP.get T7.px T7.tidy x.1 hxS
      rw [hgt] at hC
      have x0 : (w6.alloc (.cells (VE x) 32)).cell? ⟨w6.heap.size, 0, none⟩ = some (.string x.1) := X7.cell 0 rfl
      go_wp2_with fail
      refine hC.mono ?_
      rintro e w8 ⟨rfl, b8⟩
      have b9 : Below (w6.alloc (.cells (VE x) 32)).heap.size (w6.alloc (.cells (VE x) 32)) (w8.alloc (.cells (VE x) 32)) := b8.alloc b8.size _
      have X9 := X7.keepB b9 X7.lt
      have Y9 : BoxN (w8.alloc (.cells (VE x) 32)) w8.heap.size (VE x) 32 := ⟨heap_alloc_new w8 _, rfl⟩
      have T9 := T7.below HP b9
      clear X7 T7 b8 b9 hC x0
      have hLn := HP.len T9.px T9.tidy
      rw [hn] at hLn
      go_wp2_with fail
      generalize hW9 : w8.alloc (.cells #[.string x.1, .int .u64 x.2.1, .int .u64 x.2.2] 32) = W9 at *
      generalize w6.heap.size = G1 at *
      generalize w8.heap.size = G2 at *
      clear hW9
      refine hLn.mono ?_
      rintro e w10 ⟨rfl, b10⟩
      have X10 := X9.keepB b10 X9.lt
      have Y10 := Y9.keepB b10 Y9.lt
      have T10 := T9.below HP b10
      have x0 : w10.cell? ⟨G1, 0, none⟩ = some (.string x.1) := X10.cell 0 rfl
      have x1 : w10.cell? ⟨G1, 1, none⟩ = some (.int .u64 x.2.1) := X10.cell 1 rfl
      have x2 : w10.cell? ⟨G1, 2, none⟩ = some (.int .u64 x.2.2) := X10.cell 2 rfl
      have y0 : w10.cell? ⟨G2, 0, none⟩ = some (.string x.1) := Y10.cell 0 rfl
      have y1 : w10.cell? ⟨G2, 1, none⟩ = some (.int .u64 x.2.1) := Y10.cell 1 rfl
      have y2 : w10.cell? ⟨G2, 2, none⟩ = some (.int .u64 x.2.2) := Y10.cell 2 rfl
      have hQ := eqIn_entry x.1 x.1 x.2.1 x.2.1 x.2.2 x.2.2
      rw [decide_eq_true rfl] at hQ
      clear X9 Y9 T9 hLn b10
      have hEn := HP.entries T10.px T10.tidy
      have hl : t.l.length = n := hn
      have HX := Lib.hid X10
      have HT := Lib.hid T10
      have hbI : ((n : Int) > 0 ∧ b = true) ∨ (¬ (n : Int) > 0 ∧ b = false) := by
        rw [hn] at hbb
        rcases Nat.eq_zero_or_pos n with h | h
        · exact .inr ⟨by omega, by rw [hbb]; exact decide_eq_false (by omega)⟩
        · exact .inl ⟨by omega, by rw [hbb]; exact decide_eq_true h⟩
      clear X10 Y10 T10 hbb hbf hbt hL hgt hSz hG
      obtain ⟨ls, hls⟩ : ∃ ls, t.l = ls := ⟨_, rfl⟩
      rw [hls] at hEn hl hct hz
      obtain ⟨xs, hxs⟩ : ∃ xs, x.2.1 + x.2.2 = xs := ⟨_, rfl⟩
      have hwx : IntKind.u64.wrap (x.2.1 + x.2.2) = xs := by rw [← hxs]; exact IntWalk.u64_in _ ⟨by omega, by omega⟩
      have hcx : ctE x = xs := hxs
      rw [hcx] at hz
      clear hcx hls hn hxs
      rcases hbI with ⟨hbI, rfl⟩ | ⟨hbI, rfl⟩
      all_goals
        go_wp2_with fail
        refine hEn.mono ?_
        rintro e w11 ⟨A11, n11, c11, hl11, rfl, R11, _, b11⟩
        obtain rfl : n = n11 := by omega
        have X11 := HX.out.keepB b11 HX.out.lt
        have T11 := HT.out.below HP b11
        have hcap := R11.cap
        have hmax := R11.max
        clear hEn b11 x0 x1 x2 y0 y1 y2 hQ HX HT hbI
        go_wp2
        go_loopw [65] (fun jv wr => ∃ j : Nat, j ≤ n ∧ jv = .int .i64 (j : Int) ∧ Below w11.heap.size w11 wr) (fun jv _ => n - (intOf jv).toNat)
        case atStart => exact ⟨0, Nat.zero_le _, rfl, Below.refl _ _⟩
        case round =>
          obtain ⟨j, hj, rfl, hb⟩ := hrel
          by_cases hjl : j < n
          · obtain ⟨b', o, z, rfl, hzj, z0, z1, z2⟩ := (R11.below hb).atEn hjl
            have hjI : (j : Int) < (n : Int) := by omega
            have hzm := List.mem_of_getElem? hzj
            obtain ⟨q1, q2, q3⟩ := hct z hzm
            obtain ⟨q4, q5⟩ := hz z hzm
            obtain ⟨zs, hzs⟩ : ∃ zs, z.2.1 + z.2.2 = zs := ⟨_, rfl⟩
            have hwz : IntKind.u64.wrap (z.2.1 + z.2.2) = zs := by rw [← hzs]; exact IntWalk.u64_in _ ⟨by omega, by omega⟩
            have hcz : ctE z = zs := hzs
            rw [hcz] at q4 q5
            have hlt : ¬ zs < xs := by omega
            have bA : Below wr.heap.size wr (wr.alloc (.cells (VE z) 32)) := (Below.refl _ _).alloc (Nat.le_refl _) _
            have hb2 := hb.alloc hb.size (.cells (VE z) 32)
            have XA := X11.keepB hb2 X11.lt
            have v0 : (wr.alloc (.cells (VE z) 32)).cell? ⟨wr.heap.size, 0, none⟩ = some (.string z.1) := (World.cell?_alloc_at (w := wr) _ _ _ _ rfl).trans rfl
            have v1 : (wr.alloc (.cells (VE z) 32)).cell? ⟨wr.heap.size, 1, none⟩ = some (.int .u64 z.2.1) := (World.cell?_alloc_at (w := wr) _ _ _ _ rfl).trans rfl
            have v2 : (wr.alloc (.cells (VE z) 32)).cell? ⟨wr.heap.size, 2, none⟩ = some (.int .u64 z.2.2) := (World.cell?_alloc_at (w := wr) _ _ _ _ rfl).trans rfl
            have g0 : (wr.alloc (.cells (VE z) 32)).cell? ⟨G1, 0, none⟩ = some (.string x.1) := XA.cell 0 rfl
            have g1 : (wr.alloc (.cells (VE z) 32)).cell? ⟨G1, 1, none⟩ = some (.int .u64 x.2.1) := XA.cell 1 rfl
            have g2 : (wr.alloc (.cells (VE z) 32)).cell? ⟨G1, 2, none⟩ = some (.int .u64 x.2.2) := XA.cell 2 rfl
            have HB := Lib.hid hb2
            have hcs : (zs == xs) = false ∨ ((zs == xs) = true ∧ Op.bytesLess z.1.toList x.1.toList = true) ∨ ((zs == xs) = true ∧ Op.bytesLess z.1.toList x.1.toList = false ∧ (z.1.toList == x.1.toList) = true) := by
              by_cases h : zs = xs
              · have h5 := q5 h
                have hb7 := beq_iff_eq.2 h
                rcases sless_total z.1 x.1 with h6 | h6 | h6
                · exact .inr (.inr ⟨hb7, by rw [h6]; exact sless_irrefl x.1, by rw [h6]; exact beq_iff_eq.2 rfl⟩)
                · exact .inr (.inl ⟨hb7, h6⟩)
                · rw [h5] at h6; cases h6
              · exact .inl (beq_eq_false_iff_ne.2 h)
            clear hb hb2 bA XA hzs hcz hzm hzj q5
            rcases hcs with he | ⟨he, hless⟩ | ⟨he, hless, heqs⟩
            all_goals
              go_wp2
              go_roundw
              case rel => exact ⟨j + 1, by omega, by go_num, HB.out⟩
              case measure => (simp [intOf] <;> omega)
          · have hjI : ¬ (j : Int) < (n : Int) := by omega
            have T12 := T11.below HP hb
            clear hb R11 X11 T11 hct hz
            go_wp2_with fail
            refine (xawake_any HP _).mono ?_
            rintro e WI ⟨rfl, hbI⟩
            have hb := (T12.ds.since.belowL hbI).below
            clear T12 hbI
            go_wp2
            go_ret
            exact ⟨rfl, hb⟩
end Go.Proofs.Ytjkomnjkolggnaa
