/- The statements about package frequent: FrequentSteps. Conditions: the program's tables keep their contracts (ProgF). -/
import Derived.Test.YtgkokglngpbamaaGdeck
import Derived.Test.YtgkokglngpbamaaZ08
import Derived.Deep.CutBlock
namespace Go.Proofs.Ytgkokglngpbamaa
open Go.ChangeShapes Go.WideShapes Go.ChangeAt Go.RowKit
set_option linter.unusedVariables false
set_option linter.unusedSimpArgs false
set_option maxRecDepth 100000

/-- A deck, the program's table, the specified one, the box of an entry. -/
structure TwoF (PT : RepF) (w : World) (gd : Nat) (A : Option Addr) (m d g gq gx : Nat) (x : En) (col : Col) (q r : TSt) (W : World) : Prop where
  ds : DkS w col W gd A m d
  pt : PT col 16 W g q
  rt : RefF col 32 W gq r
  bx : BoxC col W gx 0 (VE x) 32
section
variable {PT : RepF} {w W W' : World} {gd m d g gq gx : Nat} {x : En} {A : Option Addr} {col col' : Col} {q q' r r' : TSt}
theorem TwoF.tidy (h : TwoF PT w gd A m d g gq gx x col q r W) : Tidy col W := h.ds.tidy
theorem TwoF.below (HP : ProgF PT) (h : TwoF PT w gd A m d g gq gx x col q r W) (hb : Below W.heap.size W W') : TwoF PT w gd A m d g gq gx x col q r W' := ⟨h.ds.below hb, HP.below h.pt h.tidy hb, h.rt.below h.tidy hb, h.bx.keep (P := fun _ => False) (StepC.below h.tidy hb) (fun h => h)⟩
theorem TwoF.did1 (h : TwoF PT w gd A m d g gq gx x col q r W) (hd : DidPF PT col 16 W g q' W') : ∃ col', TwoF PT w gd A m d g gq gx x col' q' r W' ∧ StepC (Rng 16) col W col' W' := by
  obtain ⟨col', h1, s⟩ := hd
  exact ⟨col', ⟨h.ds.step s (by unfold Rng; omega) (rng0 (by omega)), h1, h.rt.keep s (rngs_no (by omega)), h.bx.keep s (rng0 (by omega))⟩, s⟩
theorem TwoF.did2 (HP : ProgF PT) (h : TwoF PT w gd A m d g gq gx x col q r W) (hd : DidRF col 32 W gq r' W') : ∃ col', TwoF PT w gd A m d g gq gx x col' q r' W' ∧ StepC (Rng 32) col W col' W' := by
  obtain ⟨col', h1, s⟩ := hd
  exact ⟨col', ⟨h.ds.step s (by unfold Rng; omega) (rng0 (by omega)), HP.keep h.pt s (rngs_no (by omega)) (rng0 (by omega)), h1, h.bx.keep s (rng0 (by omega))⟩, s⟩
theorem TwoF.deck (HP : ProgF PT) (h : TwoF PT w gd A m d g gq gx x col q r W) (hD : Dk w W' gd A m d) (hg : W.grownBy W' (some gd)) : TwoF PT w gd A m d g gq gx x col q r W' := by
  obtain ⟨h1, s⟩ := h.ds.deck hD hg
  exact ⟨h1, HP.keep h.pt s (fun c hc e => by have := hc.1; omega) (by omega), h.rt.keep s (fun c hc e => by have := hc.1; omega), h.bx.keep s (by omega)⟩
theorem TwoF.own (HP : ProgF PT) (h : TwoF PT w gd A m d g gq gx x col q r W) (s : StepC (fun c => c = 3) col W col' W') : TwoF PT w gd A m d g gq gx x col' q r W' :=
  ⟨h.ds.step s (by omega) (by omega), HP.keep h.pt s (fun c hc e => by have := hc.1; omega) (by omega), h.rt.keep s (fun c hc e => by have := hc.1; omega), h.bx.keep s (by omega)⟩
theorem TwoF.puts (HP : ProgF PT) (h : TwoF PT w gd A m d g gq gx x col q r W) {G : Nat} {a : En} (X : BoxC col W G 3 (VE a) 32) (b : En) :
    TwoF PT w gd A m d g gq gx x col q r (((W.setCell ⟨G, 0, none⟩ (.string b.1)).setCell ⟨G, 1, none⟩ (.int .u64 b.2.1)).setCell ⟨G, 2, none⟩ (.int .u64 b.2.2)) ∧ BoxC col (((W.setCell ⟨G, 0, none⟩ (.string b.1)).setCell ⟨G, 1, none⟩ (.int .u64 b.2.1)).setCell ⟨G, 2, none⟩ (.int .u64 b.2.2)) G 3 (VE b) 32 := by
  have u1 := StepC.set (P := fun d => d = 3) (a := ⟨G, 0, none⟩) h.tidy X.col (.string b.1)
  have u2 := StepC.set (P := fun d => d = 3) (a := ⟨G, 1, none⟩) u1.tidy X.col (.int .u64 b.2.1)
  have u3 := StepC.set (P := fun d => d = 3) (a := ⟨G, 2, none⟩) u2.tidy X.col (.int .u64 b.2.2)
  exact ⟨h.own HP ((u1.trans u2).trans u3), vbox_en X b⟩
theorem TwoF.put12 (HP : ProgF PT) (h : TwoF PT w gd A m d g gq gx x col q r W) {G : Nat} {a : En} (X : BoxC col W G 3 (VE a) 32) (P Q : Int) :
    TwoF PT w gd A m d g gq gx x col q r ((W.setCell ⟨G, 1, none⟩ (.int .u64 P)).setCell ⟨G, 2, none⟩ (.int .u64 Q)) ∧ BoxC col ((W.setCell ⟨G, 1, none⟩ (.int .u64 P)).setCell ⟨G, 2, none⟩ (.int .u64 Q)) G 3 (VE (a.1, P, Q)) 32 := by
  have u1 := StepC.set (P := fun d => d = 3) (a := ⟨G, 1, none⟩) h.tidy X.col (.int .u64 P)
  have u2 := StepC.set (P := fun d => d = 3) (a := ⟨G, 2, none⟩) u1.tidy X.col (.int .u64 Q)
  exact ⟨h.own HP (u1.trans u2), (X.put 1 _).put 2 _⟩
theorem bits_w64 (z m : Int) : W64 (bits .and .u64 z m) := by
  show W64 (IntKind.u64.wrap _)
  rw [IntKind.wrap_u64]
  unfold W64
  omega
theorem BoxC.enF {G c : Nat} {e : En} (X : BoxC col W G c (VE e) 32) : W.cell? ⟨G, 0, none⟩ = some (.string e.1) ∧ W.cell? ⟨G, 1, none⟩ = some (.int .u64 e.2.1) ∧ W.cell? ⟨G, 2, none⟩ = some (.int .u64 e.2.2) := ⟨X.cell 0 rfl, X.cell 1 rfl, X.cell 2 rfl⟩
theorem box_newf (ht : Tidy col W) (e : En) : BoxC col (W.alloc (.cells (VE e) 32)) W.heap.size 0 (VE e) 32 := ⟨heap_alloc_new W _, ht _ (Nat.le_refl _)⟩
theorem bl_newf (W : World) (e : En) : Below W.heap.size W (W.alloc (.cells (VE e) 32)) := (Below.refl _ _).alloc (Nat.le_refl _) _
theorem sameEf_is {W0 W : World} {A A' : Option Addr} {n c c' : Nat} {l : List En} (h : RdG kEn W A n c l) (h' : RdG kEn W A' n c' l) (hb : Below W0.heap.size W0 W) :
    Calls Try.prog 27 #[.slice A n c, .slice A' n c'] W fun e w' => e = .returned (.bool true) ∧ Below W0.heap.size W0 w' :=
  (sameEntries_yes A A' n c c' l W h h').mono fun e w' h => ⟨h.1, below_then hb h.2⟩
theorem TwoF.ents (HP : ProgF PT) {LQ : Nat} (T : TwoF PT w gd A m d g gq gx x col q q W) (hL : q.l.length = LQ) (W' : World) (hb : Below W.heap.size W W') :
    Calls Try.prog 17 #[.pointer (some ⟨g, 0, none⟩)] W' fun e w' => ∃ A c, e = .returned (.slice A LQ c) ∧ RdG kEn w' A LQ c (sortE (q.l.map q.tellF)) ∧ Below W.heap.size W w' :=
  (HP.entries (T.below HP hb).pt (T.below HP hb).tidy).mono fun e w' ⟨A, n, c, hn, he, hR, _, hB⟩ => by
    have : LQ = n := by rw [← hL, ← hn]; rw [sortE_len, List.length_map]
    subst this
    exact ⟨A, c, he, hR, below_then hb hB⟩
theorem TwoF.rents (HP : ProgF PT) {LQ : Nat} (T : TwoF PT w gd A m d g gq gx x col q q W) (hL : q.l.length = LQ) (W' : World) (hb : Below W.heap.size W W') :
    Calls Try.prog 28 #[.pointer (some ⟨gq, 0, none⟩)] W' fun e w' => ∃ A c, e = .returned (.slice A LQ c) ∧ RdG kEn w' A LQ c (sortE (q.l.map q.tellF)) ∧ Below W.heap.size W w' ∧ Below W'.heap.size W' w' :=
  (rfEntries (T.below HP hb).rt (T.below HP hb).tidy).mono fun e w' ⟨A, n, c, hn, he, hR, _, hB⟩ => by
    have : LQ = n := by rw [← hL, ← hn]; rw [sortE_len, List.length_map]
    subst this
    exact ⟨A, c, he, hR, below_then hb hB, hB⟩
/-- What the last test of a round loads. -/
theorem keep7f {W0 W : World} {g1 g2 gq : Nat} {a b : En} {v : Value} (X1 : W0.heap[g1]? = some (.cells (VE a) 32 (0, 0))) (X2 : W0.heap[g2]? = some (.cells (VE b) 32 (0, 0))) (x2 : W0.cell? ⟨gq, 2, none⟩ = some v) (h : Below W0.heap.size W0 W) :
    W.cell? ⟨g1, 0, none⟩ = some (.string a.1) ∧ W.cell? ⟨g1, 1, none⟩ = some (.int .u64 a.2.1) ∧ W.cell? ⟨g1, 2, none⟩ = some (.int .u64 a.2.2) ∧ W.cell? ⟨g2, 0, none⟩ = some (.string b.1) ∧ W.cell? ⟨g2, 1, none⟩ = some (.int .u64 b.2.1) ∧ W.cell? ⟨g2, 2, none⟩ = some (.int .u64 b.2.2) ∧ W.cell? ⟨gq, 2, none⟩ = some v ∧ Below W0.heap.size W0 W := by
  have h1 := (h.block g1 (Array.getElem?_eq_some_iff.1 X1).1).trans X1
  have h2 := (h.block g2 (Array.getElem?_eq_some_iff.1 X2).1).trans X2
  exact ⟨by rw [Lib.cell_of_heap h1]; rfl, by rw [Lib.cell_of_heap h1]; rfl, by rw [Lib.cell_of_heap h1]; rfl, by rw [Lib.cell_of_heap h2]; rfl, by rw [Lib.cell_of_heap h2]; rfl, by rw [Lib.cell_of_heap h2]; rfl, (cellB x2 h).1, h⟩
end
set_option maxHeartbeats 32000000 in
theorem frequentSteps_walk {PT : RepF} (HP : ProgF PT) (n : Int) (A : Option Addr) (m d : Nat) (B : Option Addr) (p c : Nat) (raw : Int) (x : En) (w : World) (n0 : 0 ≤ n) (n1 : n ≤ 255) (hA : RdI w A m d) (hB : RdI w B p c) (r0 : 0 ≤ raw) (r1 : raw ≤ 18446744073709551615) (hx : Sz x.1 ∧ W64 x.2.1 ∧ W64 x.2.2) :
    Calls Try.prog 4 #[.int .u8 n, .slice A m d, .slice B p c, .int .u64 raw, .agg (VE x)] w (Yes w) := by
  have hcapB := hB.1
  have hmaxB := hB.2.1
  simp only [maxLen] at hmaxB
  have hb0 := bl_newf w x
  have hS0 : Since w (fun _ => 0) (w.alloc (.cells (VE x) 32)) := (Since.start w).belowL hb0
  have X0 : BoxC (fun _ => 0) (w.alloc (.cells (VE x) 32)) w.heap.size 0 (VE x) 32 := ⟨heap_alloc_new w _, rfl⟩
  obtain ⟨a, rfl⟩ : ∃ a : Nat, n = (a : Int) := ⟨n.toNat, by omega⟩
  have hw0 : IntKind.i64.wrap (a : Int) = (a : Int) := by rw [IntKind.wrap_i64]; omega
  obtain ⟨r, hr⟩ : ∃ r : Nat, (a : Int).tmod 5 = (r : Int) := ⟨((a : Int).tmod 5).toNat, by rw [Int.tmod_eq_emod_of_nonneg (by omega)]; omega⟩
  have hr8 : r < 5 := by rw [Int.tmod_eq_emod_of_nonneg (by omega)] at hr; omega
  have hr2 : (a : Int) % 5 = (r : Int) := by rw [Int.tmod_eq_emod_of_nonneg (by omega)] at hr; exact hr
  obtain ⟨N, hN⟩ : ∃ N : Nat, 1 + r = N := ⟨_, rfl⟩
  have hw1 : IntKind.i64.wrap (1 + (r : Int)) = (N : Int) := by rw [IntKind.wrap_i64]; omega
  have hwr : IntKind.i64.wrap (r : Int) = (r : Int) := by rw [IntKind.wrap_i64]; omega
  have hJN : J64 (N : Int) := by unfold J64; omega
  have hE : svE (N : Int) = 0 := if_neg (by omega)
  have hraw : W64 raw := ⟨r0, r1⟩
  clear hN hr8
  obtain ⟨w1, hw1'⟩ : ∃ W, W = w.alloc (.cells (VE x) 32) := ⟨_, rfl⟩
  rw [← hw1'] at hS0 X0 hb0
  have hnew := HP.new (k := 16) hS0.tidy (by omega) (N : Int) hJN
  go_enter Try.func4, Try.ntmps4
  go_wp2_with fail
  rw [← hw1']
  clear hw1'
  generalize w.heap.size = gx at *
  refine hnew.mono ?_
  rintro e w2 (⟨_, g, rfl, hd⟩ | ⟨h0, _⟩)
  rotate_left
  · rw [hE] at h0; cases h0
  rw [Int.toNat_natCast] at hd
  obtain ⟨col2, p2, s2⟩ := hd
  have S2 := hS0.step s2 (rng0 (by omega))
  have X2 := X0.keep s2 (rng0 (by omega))
  clear hS0 X0 s2 hnew
  go_wp2_with fail
  refine (rfNew (k := 32) S2.tidy (by omega) (N : Int) hJN).mono ?_
  rintro e w3 (⟨_, gq, rfl, col3, p3, s3⟩ | ⟨h0, _⟩)
  rotate_left
  · rw [hE] at h0; cases h0
  rw [Int.toNat_natCast] at p3
  have S3 := S2.step s3 (rng0 (by omega))
  have X3 := X2.keep s3 (rng0 (by omega))
  have P3 := HP.keep p2 s3 (rngs_no (by omega)) (rng0 (by omega))
  clear S2 X2 s3 p2 hw0 hr hr2 hw1 hwr hE hJN
  have hNd := new_any A m d w3
  go_wp2_with fail
  refine hNd.mono ?_
  rintro e w4 ⟨rfl, rfl⟩
  have s4 := StepC.new S3.tidy (.cells #[.slice A m d, .int .i64 0] 77) 1 (fun _ => False)
  have S4 := S3.step s4 (fun h => h)
  have T4 : TwoF PT w w3.heap.size A m d g gq gx x _ (newT N) (newT N) (w3.alloc (.cells #[.slice A m d, .int .i64 0] 77)) :=
    ⟨⟨S4, ⟨hA, S4.below, S3.below.size, 0, heap_alloc_new w3 _, Nat.zero_le _⟩, dye_of⟩, HP.keep P3 s4 (fun _ _ h => h) (fun h => h), p3.keep s4 (fun _ _ h => h), X3.keep s4 (fun h => h)⟩
  generalize w3.heap.size = gd at *
  generalize w3.alloc (.cells #[.slice A m d, .int .i64 0] 77) = w4 at *
  clear S3 X3 P3 p3 s4 S4 hNd hA
  go_wp2
  go_loopw [17] (fun iv wr => ∃ (i : Nat) (col : Col) (q : TSt), i ≤ p ∧ i ≤ 60 ∧ iv = .int .i64 (i : Int) ∧ TwoF PT w gd A m d g gq gx x col q q wr) (fun iv _ => p - (intOf iv).toNat)
  case atStart => exact ⟨0, _, _, Nat.zero_le _, Nat.zero_le _, rfl, T4⟩
  case round =>
    clear T4
    obtain ⟨i, col, q, hip, hi60, rfl, T⟩ := hrel
    by_cases hend : i < p ∧ i < 60
    · have hpi : (i : Int) < (p : Int) := by omega
      have h6i : (i : Int) < 60 := by omega
      obtain ⟨bB, oB, s, rfl, cS, hs0, hs1⟩ := (hB.below T.ds.since.below).2.2 i hend.1
      obtain ⟨M, hMm, hM⟩ := mask_any (s / 16) 31 (by omega)
      have hM' : bits .and .i64 (s / 16) 31 = (M : Int) := hM
      obtain ⟨V, hVm, hV⟩ := mask_any s 15 (by omega)
      have hV' : bits .and .i64 s 15 = (V : Int) := hV
      obtain ⟨Z, hZm, hZ⟩ := mask_any (s / 16384) 7 (by omega)
      have hZ' : bits .and .i64 (s / 16384) 7 = (Z : Int) := hZ
      obtain ⟨U, hUm, hU⟩ := mask_any (s / 131072) 1 (by omega)
      have hU' : bits .and .i64 (s / 131072) 1 = (U : Int) := hU
      clear hM hV hZ hU hB
      obtain ⟨wt, hwt, hWt⟩ := fweigh_any s raw ⟨hs0, hs1⟩ hraw
      have hTT := Lib.hid T
      clear T
      go_wp2_with fail
      refine (short_dk hTT.out.ds.dk).mono ?_
      rintro e W2 ⟨t, ht, rfl, h2, g2⟩
      have T2 := Lib.hid (hTT.out.deck HP h2 g2)
      clear h2 g2 hTT cS
      go_upto_if 78 with fail
      go_cut [19] from 59 to 213 (fun vk wx => ∃ key : ByteArray, Sz key ∧ vk = .string key ∧ wx = W2)
      case first =>
        by_cases hM0 : M = 0
        · subst hM0
          go_wp2_with fail
          go_meet
          exact ⟨⟨#[]⟩, Nat.zero_le _, rfl, rfl⟩
        · have g0 : ((M : Int) == 0) = false := by rw [beq_eq_false_iff_ne]; omega
          go_wp2_with fail
          go_meet
          exact ⟨t, short_sz' ht, rfl, rfl⟩
      case rest =>
        clear hM' hMm ht
        obtain ⟨key, hk, rfl, rfl⟩ := hcut
        have hV4 : V = 0 ∨ V = 1 ∨ V = 2 ∨ V = 3 ∨ V = 4 ∨ 5 ≤ V := by omega
        go_upto_block 2 with fail
        go_cut [20, 21, 22, 23, 24, 25, 26, 27, 28] from 59 to 213 (fun va vb vc vd ve vf vg vh vi wx => ∃ (col' : Col) (q' : TSt), TwoF PT w gd A m d g gq gx x col' q' q' wx)
        case first =>
          rcases hV4 with rfl | rfl | rfl | rfl | rfl | hV5
          · as_aux_lemma =>
              have hC := HP.take T2.out.pt T2.out.tidy key hk
              have hC2 := fun (col : Col) (W : World) (h : RefF col 32 W gq q) (ht : Tidy col W) => rfTake h ht key
              generalize q.getF key = gv at *
              generalize q.take key = q2 at *
              have hne : (gv.2 != gv.2) = false := by simp
              have hQ := eqIn_entry gv.1.1 gv.1.1 gv.1.2.1 gv.1.2.1 gv.1.2.2 gv.1.2.2
              rw [decide_eq_true rfl] at hQ
              go_wp2_with fail
              refine hC.mono ?_
              rintro e w5 ⟨rfl, hd⟩
              obtain ⟨col5, T5, _⟩ := T2.out.did1 hd
              have T6 := T5.below HP (bl_newf w5 gv.1)
              have X6 := box_newf T5.tidy gv.1
              have hC3 := hC2 _ _ T6.rt T6.tidy
              clear hC hd T5 T2 hC2
              go_wp2_with fail
              refine hC3.mono ?_
              rintro e w7 ⟨rfl, hd⟩
              obtain ⟨col7, T7, s7⟩ := T6.did2 HP hd
              have X7 := (X6.keep s7 (rng0 (by omega))).keep (P := fun _ => False) (StepC.below s7.tidy (bl_newf w7 gv.1)) (fun h => h)
              have T8 := T7.below HP (bl_newf w7 gv.1)
              have Y8 := box_newf s7.tidy gv.1
              obtain ⟨v0, v1, v2⟩ := X7.enF
              obtain ⟨u0, u1, u2⟩ := Y8.enF
              clear hC3 hd T6 X6 T7 s7 X7 Y8
              go_wp2_with fail
              go_meet
              exact ⟨_, _, T8⟩
          · as_aux_lemma =>
              have hC := HP.take T2.out.pt T2.out.tidy key hk
              have hC2 := fun (col : Col) (W : World) (h : RefF col 32 W gq q) (ht : Tidy col W) => rfTake h ht key
              generalize q.getF key = gv at *
              generalize q.take key = q2 at *
              have hne : (gv.2 != gv.2) = false := by simp
              have hQ := eqIn_entry gv.1.1 gv.1.1 gv.1.2.1 gv.1.2.1 gv.1.2.2 gv.1.2.2
              rw [decide_eq_true rfl] at hQ
              go_wp2_with fail
              refine hC.mono ?_
              rintro e w5 ⟨rfl, hd⟩
              obtain ⟨col5, T5, _⟩ := T2.out.did1 hd
              have T6 := T5.below HP (bl_newf w5 gv.1)
              have X6 := box_newf T5.tidy gv.1
              have hC3 := hC2 _ _ T6.rt T6.tidy
              clear hC hd T5 T2 hC2
              go_wp2_with fail
              refine hC3.mono ?_
              rintro e w7 ⟨rfl, hd⟩
              obtain ⟨col7, T7, s7⟩ := T6.did2 HP hd
              have X7 := (X6.keep s7 (rng0 (by omega))).keep (P := fun _ => False) (StepC.below s7.tidy (bl_newf w7 gv.1)) (fun h => h)
              have T8 := T7.below HP (bl_newf w7 gv.1)
              have Y8 := box_newf s7.tidy gv.1
              obtain ⟨v0, v1, v2⟩ := X7.enF
              obtain ⟨u0, u1, u2⟩ := Y8.enF
              clear hC3 hd T6 X6 T7 s7 X7 Y8
              go_wp2_with fail
              go_meet
              exact ⟨_, _, T8⟩
          · as_aux_lemma =>
              have hD := entry_dk T2.out.ds.dk
              go_wp2_with fail
              refine hD.mono ?_
              rintro e w3 ⟨y, hy1, hy2, hy3, rfl, h3, g3⟩
              have T3 := T2.out.deck HP h3 g3
              have s4 := StepC.new T3.tidy (.cells (VE y) 32) 3 (fun c => c = 3)
              have T4 := T3.own HP s4
              have X4 : BoxC (dye col (some w3.heap.size) 3) (w3.alloc (.cells (VE y) 32)) w3.heap.size 3 (VE y) 32 := ⟨heap_alloc_new w3 _, dye_of⟩
              have hok := Lib.hid (show Sz y.1 ∧ W64 y.2.1 ∧ W64 y.2.2 from ⟨short_sz' hy1, ⟨hy2.1, by omega⟩, ⟨hy3.1, by omega⟩⟩)
              obtain ⟨c4, hc4⟩ : ∃ cc, cc = dye col (some w3.heap.size) 3 := ⟨_, rfl⟩
              obtain ⟨W4, hW4⟩ : ∃ W, W = w3.alloc (.cells (VE y) 32) := ⟨_, rfl⟩
              obtain ⟨G3, hG3⟩ : ∃ G, w3.heap.size = G := ⟨_, rfl⟩
              rw [← hc4, ← hW4] at T4 X4
              rw [hG3] at X4
              clear hD h3 g3 s4 T2 hy1 hy2 hy3 T3 hc4
              go_upto_if 126 with fail
              rw [← hW4]
              clear hW4 hG3
              go_cut [19] from 59 to 213 (fun vk wx => ∃ (y' : En) (W : World), W = wx ∧ vk = .string key ∧ TwoF PT w gd A m d g gq gx x c4 q q W ∧ BoxC c4 W G3 3 (VE y') 32 ∧ Sz y'.1 ∧ W64 y'.2.1 ∧ W64 y'.2.2)
              case first =>
                by_cases hZ0 : Z = 0
                · subst hZ0
                  obtain ⟨b0, b1, b2⟩ := T4.bx.enF
                  obtain ⟨c0, c1, c2⟩ := X4.enF
                  have f0 := X4.free 0
                  have f1 := X4.free 1
                  have f2 := X4.free 2
                  obtain ⟨T5, X5⟩ := T4.puts HP X4 x
                  have HE := Lib.hid (And.intro T5 X5)
                  clear T4 X4 T5 X5
                  go_wp2_with fail
                  go_meet
                  exact ⟨x, _, rfl, rfl, HE.out.1, HE.out.2, hx⟩
                · have g0 : ((Z : Int) == 0) = false := by rw [beq_eq_false_iff_ne]; omega
                  go_wp2_with fail
                  go_meet
                  exact ⟨y, _, rfl, rfl, T4, X4, hok.out⟩
              case rest =>
                clear T4 X4 hok
                obtain ⟨y2, W5, hW5, rfl, T5, X5, hok5⟩ := hcut
                subst hW5
                have hok := Lib.hid hok5
                clear hok5
                go_upto_if 131 with fail
                go_cut [19] from 59 to 213 (fun vk wx => ∃ (y' : En) (W : World), W = wx ∧ vk = .string key ∧ TwoF PT w gd A m d g gq gx x c4 q q W ∧ BoxC c4 W G3 3 (VE y') 32 ∧ Sz y'.1 ∧ W64 y'.2.1 ∧ W64 y'.2.2)
                case first =>
                  by_cases hU0 : U = 0
                  · subst hU0
                    obtain ⟨c0, c1, c2⟩ := X5.enF
                    have f0 := X5.free 0
                    have f1 := X5.free 1
                    have f2 := X5.free 2
                    obtain ⟨P, hP⟩ : ∃ P, bits .and .u64 y2.2.1 3 = P := ⟨_, rfl⟩
                    obtain ⟨Q, hQ⟩ : ∃ P, bits .and .u64 y2.2.2 1 = P := ⟨_, rfl⟩
                    have hPQ : W64 P ∧ W64 Q := ⟨by rw [← hP]; exact bits_w64 _ _, by rw [← hQ]; exact bits_w64 _ _⟩
                    obtain ⟨T6, X6⟩ := T5.put12 HP X5 P Q
                    have HE := Lib.hid (And.intro T6 (And.intro X6 (And.intro hok.out.1 hPQ)))
                    clear T5 X5 T6 X6 hPQ
                    go_wp2_with fail
                    go_meet
                    exact ⟨(y2.1, P, Q), _, rfl, rfl, HE.out.1, HE.out.2.1, HE.out.2.2⟩
                  · have g0 : ((U : Int) == 0) = false := by rw [beq_eq_false_iff_ne]; omega
                    go_wp2_with fail
                    go_meet
                    exact ⟨y2, _, rfl, rfl, T5, X5, hok.out⟩
                case rest =>
                  clear T5 X5 hok
                  obtain ⟨y, W6, hW6, rfl, T4, X4, hok5⟩ := hcut
                  subst hW6
                  have hok := Lib.hid hok5
                  have hC := HP.swap T4.pt T4.tidy key y hk hok.out.1 hok.out.2.1 hok.out.2.2
                  have hC2 := fun (col : Col) (W : World) (h : RefF col 32 W gq q) (ht : Tidy col W) => rfSwap h ht key y hok.out.2.1
                  obtain ⟨z0, z1, z2⟩ := X4.enF
                  generalize q.swapF key y = gv at *
                  have hne : (gv.1.2 != gv.1.2) = false := by simp
                  have hQ := eqIn_entry gv.1.1.1 gv.1.1.1 gv.1.1.2.1 gv.1.1.2.1 gv.1.1.2.2 gv.1.1.2.2
                  rw [decide_eq_true rfl] at hQ
                  clear hok5
                  go_wp2_with fail
                  refine hC.mono ?_
                  rintro e w6 ⟨rfl, hd⟩
                  obtain ⟨col6, T6, s6⟩ := T4.did1 hd
                  have X6 := (X4.keep s6 (by unfold Rng; omega)).keep (P := fun _ => False) (StepC.below s6.tidy (bl_newf w6 gv.1.1)) (fun h => h)
                  have T7 := T6.below HP (bl_newf w6 gv.1.1)
                  have Y7 := box_newf s6.tidy gv.1.1
                  have hC3 := hC2 _ _ T7.rt T7.tidy
                  obtain ⟨a0, a1, a2⟩ := X6.enF
                  clear hC hd T6 s6 hC2 X4 T4 z0 z1 z2 X6
                  go_wp2_with fail
                  refine hC3.mono ?_
                  rintro e w8 ⟨rfl, hd⟩
                  obtain ⟨col8, T8, s8⟩ := T7.did2 HP hd
                  have Y8 := (Y7.keep s8 (rng0 (by omega))).keep (P := fun _ => False) (StepC.below s8.tidy (bl_newf w8 gv.1.1)) (fun h => h)
                  have T9 := T8.below HP (bl_newf w8 gv.1.1)
                  have U9 := box_newf s8.tidy gv.1.1
                  obtain ⟨v0, v1, v2⟩ := Y8.enF
                  obtain ⟨u0, u1, u2⟩ := U9.enF
                  clear hC3 hd T7 Y7 T8 s8 Y8 U9 a0 a1 a2
                  go_wp2_with fail
                  go_meet
                  exact ⟨_, _, T9⟩
          · as_aux_lemma =>
              have hD := entry_dk T2.out.ds.dk
              go_wp2_with fail
              refine hD.mono ?_
              rintro e w3 ⟨y, hy1, hy2, hy3, rfl, h3, g3⟩
              have T3 := T2.out.deck HP h3 g3
              have s4 := StepC.new T3.tidy (.cells (VE y) 32) 3 (fun c => c = 3)
              have T4 := T3.own HP s4
              have X4 : BoxC (dye col (some w3.heap.size) 3) (w3.alloc (.cells (VE y) 32)) w3.heap.size 3 (VE y) 32 := ⟨heap_alloc_new w3 _, dye_of⟩
              have hok := Lib.hid (show Sz y.1 ∧ W64 y.2.1 ∧ W64 y.2.2 from ⟨short_sz' hy1, ⟨hy2.1, by omega⟩, ⟨hy3.1, by omega⟩⟩)
              obtain ⟨c4, hc4⟩ : ∃ cc, cc = dye col (some w3.heap.size) 3 := ⟨_, rfl⟩
              obtain ⟨W4, hW4⟩ : ∃ W, W = w3.alloc (.cells (VE y) 32) := ⟨_, rfl⟩
              obtain ⟨G3, hG3⟩ : ∃ G, w3.heap.size = G := ⟨_, rfl⟩
              rw [← hc4, ← hW4] at T4 X4
              rw [hG3] at X4
              clear hD h3 g3 s4 T2 hy1 hy2 hy3 T3 hc4
              go_upto_if 126 with fail
              rw [← hW4]
              clear hW4 hG3
              go_cut [19] from 59 to 213 (fun vk wx => ∃ (y' : En) (W : World), W = wx ∧ vk = .string key ∧ TwoF PT w gd A m d g gq gx x c4 q q W ∧ BoxC c4 W G3 3 (VE y') 32 ∧ Sz y'.1 ∧ W64 y'.2.1 ∧ W64 y'.2.2)
              case first =>
                by_cases hZ0 : Z = 0
                · subst hZ0
                  obtain ⟨b0, b1, b2⟩ := T4.bx.enF
                  obtain ⟨c0, c1, c2⟩ := X4.enF
                  have f0 := X4.free 0
                  have f1 := X4.free 1
                  have f2 := X4.free 2
                  obtain ⟨T5, X5⟩ := T4.puts HP X4 x
                  have HE := Lib.hid (And.intro T5 X5)
                  clear T4 X4 T5 X5
                  go_wp2_with fail
                  go_meet
                  exact ⟨x, _, rfl, rfl, HE.out.1, HE.out.2, hx⟩
                · have g0 : ((Z : Int) == 0) = false := by rw [beq_eq_false_iff_ne]; omega
                  go_wp2_with fail
                  go_meet
                  exact ⟨y, _, rfl, rfl, T4, X4, hok.out⟩
              case rest =>
                clear T4 X4 hok
                obtain ⟨y2, W5, hW5, rfl, T5, X5, hok5⟩ := hcut
                subst hW5
                have hok := Lib.hid hok5
                clear hok5
                go_upto_if 131 with fail
                go_cut [19] from 59 to 213 (fun vk wx => ∃ (y' : En) (W : World), W = wx ∧ vk = .string key ∧ TwoF PT w gd A m d g gq gx x c4 q q W ∧ BoxC c4 W G3 3 (VE y') 32 ∧ Sz y'.1 ∧ W64 y'.2.1 ∧ W64 y'.2.2)
                case first =>
                  by_cases hU0 : U = 0
                  · subst hU0
                    obtain ⟨c0, c1, c2⟩ := X5.enF
                    have f0 := X5.free 0
                    have f1 := X5.free 1
                    have f2 := X5.free 2
                    obtain ⟨P, hP⟩ : ∃ P, bits .and .u64 y2.2.1 3 = P := ⟨_, rfl⟩
                    obtain ⟨Q, hQ⟩ : ∃ P, bits .and .u64 y2.2.2 1 = P := ⟨_, rfl⟩
                    have hPQ : W64 P ∧ W64 Q := ⟨by rw [← hP]; exact bits_w64 _ _, by rw [← hQ]; exact bits_w64 _ _⟩
                    obtain ⟨T6, X6⟩ := T5.put12 HP X5 P Q
                    have HE := Lib.hid (And.intro T6 (And.intro X6 (And.intro hok.out.1 hPQ)))
                    clear T5 X5 T6 X6 hPQ
                    go_wp2_with fail
                    go_meet
                    exact ⟨(y2.1, P, Q), _, rfl, rfl, HE.out.1, HE.out.2.1, HE.out.2.2⟩
                  · have g0 : ((U : Int) == 0) = false := by rw [beq_eq_false_iff_ne]; omega
                    go_wp2_with fail
                    go_meet
                    exact ⟨y2, _, rfl, rfl, T5, X5, hok.out⟩
                case rest =>
                  clear T5 X5 hok
                  obtain ⟨y, W6, hW6, rfl, T4, X4, hok5⟩ := hcut
                  subst hW6
                  have hok := Lib.hid hok5
                  have hC := HP.swap T4.pt T4.tidy key y hk hok.out.1 hok.out.2.1 hok.out.2.2
                  have hC2 := fun (col : Col) (W : World) (h : RefF col 32 W gq q) (ht : Tidy col W) => rfSwap h ht key y hok.out.2.1
                  obtain ⟨z0, z1, z2⟩ := X4.enF
                  generalize q.swapF key y = gv at *
                  have hne : (gv.1.2 != gv.1.2) = false := by simp
                  have hQ := eqIn_entry gv.1.1.1 gv.1.1.1 gv.1.1.2.1 gv.1.1.2.1 gv.1.1.2.2 gv.1.1.2.2
                  rw [decide_eq_true rfl] at hQ
                  clear hok5
                  go_wp2_with fail
                  refine hC.mono ?_
                  rintro e w6 ⟨rfl, hd⟩
                  obtain ⟨col6, T6, s6⟩ := T4.did1 hd
                  have X6 := (X4.keep s6 (by unfold Rng; omega)).keep (P := fun _ => False) (StepC.below s6.tidy (bl_newf w6 gv.1.1)) (fun h => h)
                  have T7 := T6.below HP (bl_newf w6 gv.1.1)
                  have Y7 := box_newf s6.tidy gv.1.1
                  have hC3 := hC2 _ _ T7.rt T7.tidy
                  obtain ⟨a0, a1, a2⟩ := X6.enF
                  clear hC hd T6 s6 hC2 X4 T4 z0 z1 z2 X6
                  go_wp2_with fail
                  refine hC3.mono ?_
                  rintro e w8 ⟨rfl, hd⟩
                  obtain ⟨col8, T8, s8⟩ := T7.did2 HP hd
                  have Y8 := (Y7.keep s8 (rng0 (by omega))).keep (P := fun _ => False) (StepC.below s8.tidy (bl_newf w8 gv.1.1)) (fun h => h)
                  have T9 := T8.below HP (bl_newf w8 gv.1.1)
                  have U9 := box_newf s8.tidy gv.1.1
                  obtain ⟨v0, v1, v2⟩ := Y8.enF
                  obtain ⟨u0, u1, u2⟩ := U9.enF
                  clear hC3 hd T7 Y7 T8 s8 Y8 U9 a0 a1 a2
                  go_wp2_with fail
                  go_meet
                  exact ⟨_, _, T9⟩
          · as_aux_lemma =>
              have hD := entry_dk T2.out.ds.dk
              go_wp2_with fail
              refine hD.mono ?_
              rintro e w3 ⟨y, hy1, hy2, hy3, rfl, h3, g3⟩
              have T3 := T2.out.deck HP h3 g3
              have s4 := StepC.new T3.tidy (.cells (VE y) 32) 3 (fun c => c = 3)
              have T4 := T3.own HP s4
              have X4 : BoxC (dye col (some w3.heap.size) 3) (w3.alloc (.cells (VE y) 32)) w3.heap.size 3 (VE y) 32 := ⟨heap_alloc_new w3 _, dye_of⟩
              have hok := Lib.hid (show Sz y.1 ∧ W64 y.2.1 ∧ W64 y.2.2 from ⟨short_sz' hy1, ⟨hy2.1, by omega⟩, ⟨hy3.1, by omega⟩⟩)
              obtain ⟨c4, hc4⟩ : ∃ cc, cc = dye col (some w3.heap.size) 3 := ⟨_, rfl⟩
              obtain ⟨W4, hW4⟩ : ∃ W, W = w3.alloc (.cells (VE y) 32) := ⟨_, rfl⟩
              obtain ⟨G3, hG3⟩ : ∃ G, w3.heap.size = G := ⟨_, rfl⟩
              rw [← hc4, ← hW4] at T4 X4
              rw [hG3] at X4
              clear hD h3 g3 s4 T2 hy1 hy2 hy3 T3 hc4
              go_upto_if 126 with fail
              rw [← hW4]
              clear hW4 hG3
              go_cut [19] from 59 to 213 (fun vk wx => ∃ (y' : En) (W : World), W = wx ∧ vk = .string key ∧ TwoF PT w gd A m d g gq gx x c4 q q W ∧ BoxC c4 W G3 3 (VE y') 32 ∧ Sz y'.1 ∧ W64 y'.2.1 ∧ W64 y'.2.2)
              case first =>
                by_cases hZ0 : Z = 0
                · subst hZ0
                  obtain ⟨b0, b1, b2⟩ := T4.bx.enF
                  obtain ⟨c0, c1, c2⟩ := X4.enF
                  have f0 := X4.free 0
                  have f1 := X4.free 1
                  have f2 := X4.free 2
                  obtain ⟨T5, X5⟩ := T4.puts HP X4 x
                  have HE := Lib.hid (And.intro T5 X5)
                  clear T4 X4 T5 X5
                  go_wp2_with fail
                  go_meet
                  exact ⟨x, _, rfl, rfl, HE.out.1, HE.out.2, hx⟩
                · have g0 : ((Z : Int) == 0) = false := by rw [beq_eq_false_iff_ne]; omega
                  go_wp2_with fail
                  go_meet
                  exact ⟨y, _, rfl, rfl, T4, X4, hok.out⟩
              case rest =>
                clear T4 X4 hok
                obtain ⟨y2, W5, hW5, rfl, T5, X5, hok5⟩ := hcut
                subst hW5
                have hok := Lib.hid hok5
                clear hok5
                go_upto_if 131 with fail
                go_cut [19] from 59 to 213 (fun vk wx => ∃ (y' : En) (W : World), W = wx ∧ vk = .string key ∧ TwoF PT w gd A m d g gq gx x c4 q q W ∧ BoxC c4 W G3 3 (VE y') 32 ∧ Sz y'.1 ∧ W64 y'.2.1 ∧ W64 y'.2.2)
                case first =>
                  by_cases hU0 : U = 0
                  · subst hU0
                    obtain ⟨c0, c1, c2⟩ := X5.enF
                    have f0 := X5.free 0
                    have f1 := X5.free 1
                    have f2 := X5.free 2
                    obtain ⟨P, hP⟩ : ∃ P, bits .and .u64 y2.2.1 3 = P := ⟨_, rfl⟩
                    obtain ⟨Q, hQ⟩ : ∃ P, bits .and .u64 y2.2.2 1 = P := ⟨_, rfl⟩
                    have hPQ : W64 P ∧ W64 Q := ⟨by rw [← hP]; exact bits_w64 _ _, by rw [← hQ]; exact bits_w64 _ _⟩
                    obtain ⟨T6, X6⟩ := T5.put12 HP X5 P Q
                    have HE := Lib.hid (And.intro T6 (And.intro X6 (And.intro hok.out.1 hPQ)))
                    clear T5 X5 T6 X6 hPQ
                    go_wp2_with fail
                    go_meet
                    exact ⟨(y2.1, P, Q), _, rfl, rfl, HE.out.1, HE.out.2.1, HE.out.2.2⟩
                  · have g0 : ((U : Int) == 0) = false := by rw [beq_eq_false_iff_ne]; omega
                    go_wp2_with fail
                    go_meet
                    exact ⟨y2, _, rfl, rfl, T5, X5, hok.out⟩
                case rest =>
                  clear T5 X5 hok
                  obtain ⟨y, W6, hW6, rfl, T4, X4, hok5⟩ := hcut
                  subst hW6
                  have hok := Lib.hid hok5
                  have hC := HP.swap T4.pt T4.tidy key y hk hok.out.1 hok.out.2.1 hok.out.2.2
                  have hC2 := fun (col : Col) (W : World) (h : RefF col 32 W gq q) (ht : Tidy col W) => rfSwap h ht key y hok.out.2.1
                  obtain ⟨z0, z1, z2⟩ := X4.enF
                  generalize q.swapF key y = gv at *
                  have hne : (gv.1.2 != gv.1.2) = false := by simp
                  have hQ := eqIn_entry gv.1.1.1 gv.1.1.1 gv.1.1.2.1 gv.1.1.2.1 gv.1.1.2.2 gv.1.1.2.2
                  rw [decide_eq_true rfl] at hQ
                  clear hok5
                  go_wp2_with fail
                  refine hC.mono ?_
                  rintro e w6 ⟨rfl, hd⟩
                  obtain ⟨col6, T6, s6⟩ := T4.did1 hd
                  have X6 := (X4.keep s6 (by unfold Rng; omega)).keep (P := fun _ => False) (StepC.below s6.tidy (bl_newf w6 gv.1.1)) (fun h => h)
                  have T7 := T6.below HP (bl_newf w6 gv.1.1)
                  have Y7 := box_newf s6.tidy gv.1.1
                  have hC3 := hC2 _ _ T7.rt T7.tidy
                  obtain ⟨a0, a1, a2⟩ := X6.enF
                  clear hC hd T6 s6 hC2 X4 T4 z0 z1 z2 X6
                  go_wp2_with fail
                  refine hC3.mono ?_
                  rintro e w8 ⟨rfl, hd⟩
                  obtain ⟨col8, T8, s8⟩ := T7.did2 HP hd
                  have Y8 := (Y7.keep s8 (rng0 (by omega))).keep (P := fun _ => False) (StepC.below s8.tidy (bl_newf w8 gv.1.1)) (fun h => h)
                  have T9 := T8.below HP (bl_newf w8 gv.1.1)
                  have U9 := box_newf s8.tidy gv.1.1
                  obtain ⟨v0, v1, v2⟩ := Y8.enF
                  obtain ⟨u0, u1, u2⟩ := U9.enF
                  clear hC3 hd T7 Y7 T8 s8 Y8 U9 a0 a1 a2
                  go_wp2_with fail
                  go_meet
                  exact ⟨_, _, T9⟩
          · as_aux_lemma =>
              have e0 : ((V : Int) == 0) = false := beq_false_of_ne (by omega)
              have e1 : ((V : Int) == 1) = false := beq_false_of_ne (by omega)
              have e2 : ((V : Int) == 2) = false := beq_false_of_ne (by omega)
              have e3 : ((V : Int) == 3) = false := beq_false_of_ne (by omega)
              have e4 : ((V : Int) == 4) = false := beq_false_of_ne (by omega)
              have hC := HP.add T2.out.pt T2.out.tidy key wt hk hwt
              have hC2 := fun (col : Col) (W : World) (h : RefF col 32 W gq q) (ht : Tidy col W) => rfAdd h ht key wt hwt
              generalize q.addF key wt = gv at *
              have hne : (gv.1 != gv.1) = false := by simp
              go_wp2_with fail
              refine (hWt _).mono ?_
              rintro e wA ⟨rfl, hwA⟩
              subst hwA
              go_wp2_with fail
              refine hC.mono ?_
              rintro e w5 ⟨rfl, hd⟩
              obtain ⟨col5, T5, _⟩ := T2.out.did1 hd
              have hC3 := hC2 _ _ T5.rt T5.tidy
              clear hC hd T2 hC2
              go_wp2_with fail
              refine (hWt _).mono ?_
              rintro e wB ⟨rfl, hwB⟩
              subst hwB
              go_wp2_with fail
              refine hC3.mono ?_
              rintro e w7 ⟨rfl, hd⟩
              obtain ⟨col7, T7, s7⟩ := T5.did2 HP hd
              clear hC3 hd T5 s7
              go_wp2_with fail
              go_meet
              exact ⟨_, _, T7⟩
        case rest =>
          as_aux_lemma =>
            clear T2 hV4 hV' hVm hZ' hZm hU' hUm hWt hwt
            obtain ⟨col5, q5, T5⟩ := hcut
            have hC := HP.get T5.pt T5.tidy key hk
            have hC2 := fun (col : Col) (W : World) (h : RefF col 32 W gq q5) (ht : Tidy col W) => rfGet h ht key
            generalize q5.getF key = gv at *
            have e0 : (gv.2 != gv.2) = false := by simp
            have hQ := eqIn_entry gv.1.1 gv.1.1 gv.1.2.1 gv.1.2.1 gv.1.2.2 gv.1.2.2
            rw [decide_eq_true rfl] at hQ
            go_wp2_with fail
            refine hC.mono ?_
            rintro e w6 ⟨rfl, b6⟩
            have T6 := (T5.below HP b6).below HP (bl_newf w6 gv.1)
            have X6 := box_newf (T5.below HP b6).tidy gv.1
            have hC3 := hC2 _ _ T6.rt T6.tidy
            clear hC T5 b6 hC2
            go_wp2_with fail
            refine hC3.mono ?_
            rintro e w8 ⟨rfl, b8⟩
            have T8 := T6.below HP b8
            have b9 := b8.alloc b8.size (.cells (VE gv.1) 32)
            have T9 := T6.below HP b9
            have X9 := (X6.keep (P := fun _ => False) (StepC.below T6.tidy b9) (fun h => h)).heap
            have Y9 := (box_newf T8.tidy gv.1).heap
            obtain ⟨LQ, hLQ⟩ : ∃ LQ, q5.l.length = LQ := ⟨_, rfl⟩
            obtain ⟨A1, c1, x2, R1, _, _, _⟩ := T9.rt.rows
            rw [hLQ] at x2 R1
            have hcp1 := R1.cap
            have hmx1 := R1.max
            clear hC3 T6 X6 T8 b8 b9 R1
            go_wp2_with fail
            generalize hW9 : w8.alloc (.cells #[.string gv.1.1, .int .u64 gv.1.2.1, .int .u64 gv.1.2.2] 32) = W9 at *
            generalize w8.heap.size = G2 at *
            generalize w6.heap.size = G1 at *
            clear hW9
            have HT9 := Lib.hid T9
            have HE1 := Lib.hid (T9.ents HP hLQ)
            have HE2 := Lib.hid (T9.rents HP hLQ)
            have hUn := Lib.hid (fun (W : World) (hb : Below W9.heap.size W9 W) => HP.untr (T9.below HP hb).pt (T9.below HP hb).tidy)
            have hUn2 := Lib.hid (fun (W : World) (hb : Below W9.heap.size W9 W) => rfUntr (T9.below HP hb).rt)
            have hTo := Lib.hid (fun (W : World) (hb : Below W9.heap.size W9 W) => HP.total (T9.below HP hb).pt (T9.below HP hb).tidy)
            have hTo2 := Lib.hid (fun (W : World) (hb : Below W9.heap.size W9 W) => rfTotal (T9.below HP hb).rt)
            have hLn := Lib.hid (fun (W : World) (hb : Below W9.heap.size W9 W) => HP.len (T9.below HP hb).pt (T9.below HP hb).tidy)
            have HLQ := Lib.hid hLQ
            clear T9 hLQ
            generalize q5.base = k1 at *
            generalize q5.sum = k2 at *
            have e1 : (k1 != k1) = false := by simp
            have e2 : (k2 != k2) = false := by simp
            have hll : ((LQ : Int) != (LQ : Int)) = false := by simp
            go_region_held3 (fun W => W.cell? ⟨G1, 0, none⟩ = some (.string gv.1.1) ∧ W.cell? ⟨G1, 1, none⟩ = some (.int .u64 gv.1.2.1) ∧ W.cell? ⟨G1, 2, none⟩ = some (.int .u64 gv.1.2.2) ∧ W.cell? ⟨G2, 0, none⟩ = some (.string gv.1.1) ∧ W.cell? ⟨G2, 1, none⟩ = some (.int .u64 gv.1.2.1) ∧ W.cell? ⟨G2, 2, none⟩ = some (.int .u64 gv.1.2.2) ∧ W.cell? ⟨gq, 2, none⟩ = some (.slice A1 LQ c1) ∧ Below W9.heap.size W9 W) (first | exact keep7f X9 Y9 x2 d6 | exact keep7f X9 Y9 x2 d5 | exact keep7f X9 Y9 x2 d4 | exact keep7f X9 Y9 x2 d3 | exact keep7f X9 Y9 x2 d2 | exact keep7f X9 Y9 x2 d1 | exact keep7f X9 Y9 x2 (bdM _)) (first
              | (go_at_call 17; refine (HE1.out _ (bdM _)).mono ?_; rintro e w10 ⟨A6, c6, rfl, R6, d1⟩)
              | (go_at_call 28; refine (HE2.out _ d1).mono ?_; rintro e w11 ⟨A7, c7, rfl, R7, d2, b11⟩; have R62 := R6.below b11)
              | (go_at_call 27; refine (sameEf_is R62 R7 d2).mono ?_; rintro e w12 ⟨rfl, d3⟩)
              | (go_at_call 14; refine (hUn.out _ d3).mono ?_; rintro e w13 ⟨rfl, b13⟩; have d4 := below_then d3 b13)
              | (go_at_call 29; refine (hUn2.out _ d4).mono ?_; rintro e w14 ⟨rfl, hw14⟩; subst hw14)
              | (go_at_call 15; refine (hTo.out _ d4).mono ?_; rintro e w15 ⟨rfl, b15⟩; have d5 := below_then d4 b15)
              | (go_at_call 30; refine (hTo2.out _ d5).mono ?_; rintro e w16 ⟨rfl, hw16⟩; subst hw16)
              | (go_at_call 16; refine (hLn.out _ d5).mono ?_; rintro e w17 ⟨rfl, b17⟩; rw [HLQ.out]; have d6 := below_then d5 b17))
            all_goals
              have T14 := HT9.out.below HP d6
              clear HT9 HE1 HE2 hUn hUn2 hTo hTo2 hLn X9 Y9 x2
              go_wp2
              go_roundw
              case rel => exact ⟨i + 1, _, _, by omega, by omega, by go_num, T14⟩
              case measure => (simp [intOf] <;> omega)
    · have hE := Lib.hid T.ds.since
      have hcs : ¬ (i : Int) < (p : Int) ∨ ((i : Int) < (p : Int) ∧ ¬ (i : Int) < 60) := by omega
      clear T hB hend
      rcases hcs with hpi | ⟨hpi, h6i⟩
      all_goals
        go_wp2_with fail
        refine (fawake_any HP _ ).mono ?_
        rintro e w9 ⟨rfl, b9⟩
        have hb := (hE.out.belowL b9).below
        clear hE b9
        go_wp2
        go_ret
        exact ⟨rfl, hb⟩
end Go.Proofs.Ytgkokglngpbamaa
