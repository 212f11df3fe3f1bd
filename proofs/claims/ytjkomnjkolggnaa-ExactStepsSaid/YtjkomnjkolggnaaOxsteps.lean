/- The statements about package exact: ExactSteps. Conditions: the program's stores keep their contracts (ProgX). -/
import Derived.Test.YtjkomnjkolggnaaOxdeck
import Derived.Deep.CutBlock
namespace Go.Proofs.Ytjkomnjkolggnaa
open Go.ChangeShapes Go.WideShapes Go.ChangeAt Go.RowKit
set_option linter.unusedVariables false
set_option linter.unusedSimpArgs false
set_option maxRecDepth 100000

/-- A deck, the program's store, the specified one, the box of an entry. -/
structure TwX (PX : RepX) (w : World) (gd : Nat) (A : Option Addr) (m d g gq gx : Nat) (x : En) (col : Col) (q : ExSt) (W : World) : Prop where
  ds : DkS w col W gd A m d
  px : PX col 16 W g q
  rx : RefX col 32 W gq q
  bx : BoxC col W gx 0 (VE x) 32
section
variable {PX : RepX} {w W W' : World} {gd m d g gq gx G : Nat} {x y e : En} {A : Option Addr} {col col' : Col} {q q' : ExSt}
theorem TwX.tidy (h : TwX PX w gd A m d g gq gx x col q W) : Tidy col W := h.ds.tidy
theorem TwX.below (HP : ProgX PX) (h : TwX PX w gd A m d g gq gx x col q W) (hb : Below W.heap.size W W') : TwX PX w gd A m d g gq gx x col q W' := ⟨h.ds.below hb, HP.below h.px h.tidy hb, h.rx.below h.tidy hb, h.bx.keep (P := fun _ => False) (StepC.below h.tidy hb) (fun h => h)⟩
/-- The box of the round's entry has the colour 3. -/
abbrev Bx3 (col : Col) (W : World) (G : Nat) (e : En) : Prop := BoxC col W G 3 (VE e) 32
/-- The program's store has turned, then the specified one. -/
theorem TwX.did (HP : ProgX PX) (h : TwX PX w gd A m d g gq gx x col q W) (hX : Bx3 col W G e) (hd : DidPX PX col 16 W g q' W') : ∃ col', DkS w col' W' gd A m d ∧ PX col' 16 W' g q' ∧ RefX col' 32 W' gq q ∧ BoxC col' W' gx 0 (VE x) 32 ∧ Bx3 col' W' G e := by
  obtain ⟨col', h1, s⟩ := hd
  exact ⟨col', h.ds.step s (by unfold Rng; omega) (rng0 (by omega)), h1, h.rx.keep s (rngs_no (by omega)), h.bx.keep s (rng0 (by omega)), hX.keep s (by unfold Rng; omega)⟩
theorem TwX.then_ (HP : ProgX PX) (h1 : DkS w col W gd A m d) (h2 : PX col 16 W g q') (h4 : BoxC col W gx 0 (VE x) 32) (hX : Bx3 col W G e) (hd : DidRX col 32 W gq q' W') : ∃ col', TwX PX w gd A m d g gq gx x col' q' W' ∧ Bx3 col' W' G e ∧ StepC (Rng 32) col W col' W' := by
  obtain ⟨col', h3, s⟩ := hd
  exact ⟨col', ⟨h1.step s (by unfold Rng; omega) (rng0 (by omega)), HP.keep h2 s (rngs_no (by omega)) (rng0 (by omega)), h3, h4.keep s (rng0 (by omega))⟩, hX.keep s (by unfold Rng; omega), s⟩
theorem TwX.mid (HP : ProgX PX) (h1 : DkS w col W gd A m d) (h2 : PX col 16 W g q') (h3 : RefX col 32 W gq q) (h4 : BoxC col W gx 0 (VE x) 32) (hX : Bx3 col W G e) (hb : Below W.heap.size W W') : DkS w col W' gd A m d ∧ PX col 16 W' g q' ∧ RefX col 32 W' gq q ∧ BoxC col W' gx 0 (VE x) 32 ∧ Bx3 col W' G e :=
  ⟨h1.below hb, HP.below h2 h1.tidy hb, h3.below h1.tidy hb, h4.keepB hb h4.lt, hX.keepB hb hX.lt⟩
theorem TwX.deck (HP : ProgX PX) (h : TwX PX w gd A m d g gq gx x col q W) (hD : Dk w W' gd A m d) (hg : W.grownBy W' (some gd)) : TwX PX w gd A m d g gq gx x col q W' ∧ StepC (fun c => c = 1) col W col W' := by
  obtain ⟨h1, s⟩ := h.ds.deck hD hg
  exact ⟨⟨h1, HP.keep h.px s (fun c hc e => by have := hc.1; omega) (by omega), h.rx.keep s (fun c hc e => by have := hc.1; omega), h.bx.keep s (by omega)⟩, s⟩
theorem TwX.deckX (HP : ProgX PX) (h : TwX PX w gd A m d g gq gx x col q W) (hX : Bx3 col W G e) (hD : Dk w W' gd A m d) (hg : W.grownBy W' (some gd)) : TwX PX w gd A m d g gq gx x col q W' ∧ Bx3 col W' G e := by
  obtain ⟨h1, s⟩ := h.deck HP hD hg
  exact ⟨h1, hX.keep s (by omega)⟩
theorem TwX.own (HP : ProgX PX) (h : TwX PX w gd A m d g gq gx x col q W) (s : StepC (fun c => c = 3) col W col' W') : TwX PX w gd A m d g gq gx x col' q W' :=
  ⟨h.ds.step s (by omega) (by omega), HP.keep h.px s (fun c hc e => by have := hc.1; omega) (by omega), h.rx.keep s (fun c hc e => by have := hc.1; omega), h.bx.keep s (by omega)⟩
/-- A new box. -/
theorem TwX.box (HP : ProgX PX) (h : TwX PX w gd A m d g gq gx x col q W) (e : En) : TwX PX w gd A m d g gq gx x (dye col (some W.heap.size) 3) q (W.alloc (.cells (VE e) 32)) ∧ Bx3 (dye col (some W.heap.size) 3) (W.alloc (.cells (VE e) 32)) W.heap.size e :=
  ⟨h.own HP (StepC.new h.tidy _ 3 (fun c => c = 3)), heap_alloc_new W _, dye_of⟩
/-- A store into the box. -/
theorem TwX.put (HP : ProgX PX) (h : TwX PX w gd A m d g gq gx x col q W) {cs : Array Value} (hX : BoxC col W G 3 cs 32) (i : Nat) (v : Value) : TwX PX w gd A m d g gq gx x col q (W.setCell ⟨G, i, none⟩ v) ∧ BoxC col (W.setCell ⟨G, i, none⟩ v) G 3 (cs.setIfInBounds i v) 32 :=
  ⟨h.own HP (StepC.set h.tidy hX.col v), hX.put i v⟩
theorem TwX.fill (HP : ProgX PX) (h : TwX PX w gd A m d g gq gx x col q W) (hX : Bx3 col W G e) (y : En) : TwX PX w gd A m d g gq gx x col q (((W.setCell ⟨G, 0, none⟩ (.string y.1)).setCell ⟨G, 1, none⟩ (.int .u64 y.2.1)).setCell ⟨G, 2, none⟩ (.int .u64 y.2.2)) ∧ Bx3 col (((W.setCell ⟨G, 0, none⟩ (.string y.1)).setCell ⟨G, 1, none⟩ (.int .u64 y.2.1)).setCell ⟨G, 2, none⟩ (.int .u64 y.2.2)) G y := by
  obtain ⟨h1, x1⟩ := h.put HP hX 0 (.string y.1)
  obtain ⟨h2, x2⟩ := h1.put HP x1 1 (.int .u64 y.2.1)
  exact h2.put HP x2 2 (.int .u64 y.2.2)
theorem BoxC.enX {c : Nat} (X : BoxC col W G c (VE e) 32) : W.cell? ⟨G, 0, none⟩ = some (.string e.1) ∧ W.cell? ⟨G, 1, none⟩ = some (.int .u64 e.2.1) ∧ W.cell? ⟨G, 2, none⟩ = some (.int .u64 e.2.2) := ⟨X.cell 0 rfl, X.cell 1 rfl, X.cell 2 rfl⟩
/-- Two boxes of entries, and what the last test of a round loads. -/
theorem keepX {W0 W : World} {g1 g2 g3 g4 gq : Nat} {a b : En} {v : Value} (X1 : BoxN W0 g1 (VE a) 32) (X2 : BoxN W0 g2 (VE a) 32) (X3 : BoxN W0 g3 (VE b) 32) (X4 : BoxN W0 g4 (VE b) 32) (x2 : W0.cell? ⟨gq, 1, none⟩ = some v) (h : Below W0.heap.size W0 W) :
    W.cell? ⟨g1, 0, none⟩ = some (.string a.1) ∧ W.cell? ⟨g1, 1, none⟩ = some (.int .u64 a.2.1) ∧ W.cell? ⟨g1, 2, none⟩ = some (.int .u64 a.2.2) ∧ W.cell? ⟨g2, 0, none⟩ = some (.string a.1) ∧ W.cell? ⟨g2, 1, none⟩ = some (.int .u64 a.2.1) ∧ W.cell? ⟨g2, 2, none⟩ = some (.int .u64 a.2.2) ∧ W.cell? ⟨g3, 0, none⟩ = some (.string b.1) ∧ W.cell? ⟨g3, 1, none⟩ = some (.int .u64 b.2.1) ∧ W.cell? ⟨g3, 2, none⟩ = some (.int .u64 b.2.2) ∧ W.cell? ⟨g4, 0, none⟩ = some (.string b.1) ∧ W.cell? ⟨g4, 1, none⟩ = some (.int .u64 b.2.1) ∧ W.cell? ⟨g4, 2, none⟩ = some (.int .u64 b.2.2) ∧ W.cell? ⟨gq, 1, none⟩ = some v := by
  have Y1 := X1.keepB h X1.lt
  have Y2 := X2.keepB h X2.lt
  have Y3 := X3.keepB h X3.lt
  have Y4 := X4.keepB h X4.lt
  exact ⟨Y1.cell 0 rfl, Y1.cell 1 rfl, Y1.cell 2 rfl, Y2.cell 0 rfl, Y2.cell 1 rfl, Y2.cell 2 rfl, Y3.cell 0 rfl, Y3.cell 1 rfl, Y3.cell 2 rfl, Y4.cell 0 rfl, Y4.cell 1 rfl, Y4.cell 2 rfl, (cellB x2 h).1⟩
theorem TwX.ents (HP : ProgX PX) {LQ : Nat} (T : TwX PX w gd A m d g gq gx x col q W) (hL : q.l.length = LQ) (W' : World) (hb : Below W.heap.size W W') :
    Calls Try.prog 15 #[.pointer (some ⟨g, 0, none⟩)] W' fun e w' => ∃ A c, e = .returned (.slice A LQ c) ∧ RdG kEn w' A LQ c q.l ∧ Below W.heap.size W w' :=
  (HP.entries (T.below HP hb).px (T.below HP hb).tidy).mono fun e w' ⟨A, n, c, hn, he, hR, _, hB⟩ => by
    have : LQ = n := by rw [← hL, ← hn]
    subst this
    exact ⟨A, c, he, hR, below_then hb hB⟩
theorem sameEnX {W0 W : World} {A A' : Option Addr} {n c c' : Nat} {l : List En} (h : RdG kEn W A n c l) (h' : RdG kEn W A' n c' l) (hb : Below W0.heap.size W0 W) :
    Calls Try.prog 24 #[.slice A n c, .slice A' n c'] W fun e w' => e = .returned (.bool true) ∧ Below W0.heap.size W0 w' :=
  (sameEntries_yes A A' n c c' l W h h').mono fun e w' h => ⟨h.1, below_then hb h.2⟩
theorem blX (W : World) (e : En) : Below W.heap.size W (W.alloc (.cells (VE e) 32)) := (Below.refl _ _).alloc (Nat.le_refl _) _
end
/-- What a round's entry may be. -/
abbrev OkE (y : En) : Prop := Sz y.1 ∧ W64 y.2.1 ∧ W64 y.2.2
set_option maxHeartbeats 32000000 in
theorem exactSteps_walk {PX : RepX} (HP : ProgX PX) (n : Int) (A : Option Addr) (m d : Nat) (B : Option Addr) (p c : Nat) (raw : Int) (x : En) (w : World) (n0 : 0 ≤ n) (n1 : n ≤ 255) (hA : RdI w A m d) (hB : RdI w B p c) (r0 : 0 ≤ raw) (r1 : raw ≤ 18446744073709551615) (hx : Sz x.1 ∧ W64 x.2.1 ∧ W64 x.2.2) :
    Calls Try.prog 4 #[.int .u8 n, .slice A m d, .slice B p c, .int .u64 raw, .agg (VE x)] w (Yes w) := by
  have hcapB := hB.1
  have hmaxB := hB.2.1
  simp only [maxLen] at hmaxB
  have hb0 := blX w x
  have hS0 : Since w (fun _ => 0) (w.alloc (.cells (VE x) 32)) := (Since.start w).belowL hb0
  have X0 : BoxC (fun _ => 0) (w.alloc (.cells (VE x) 32)) w.heap.size 0 (VE x) 32 := ⟨heap_alloc_new w _, rfl⟩
  obtain ⟨a, rfl⟩ : ∃ a : Nat, n = (a : Int) := ⟨n.toNat, by omega⟩
  have hw0 : IntKind.i64.wrap (a : Int) = (a : Int) := by rw [IntKind.wrap_i64]; omega
  obtain ⟨N, hr⟩ : ∃ r : Nat, (a : Int).tmod 6 = (r : Int) := ⟨((a : Int).tmod 6).toNat, by rw [Int.tmod_eq_emod_of_nonneg (by omega)]; omega⟩
  have hN6 : N < 6 := by rw [Int.tmod_eq_emod_of_nonneg (by omega)] at hr; omega
  have hr2 : (a : Int) % 6 = (N : Int) := by rw [Int.tmod_eq_emod_of_nonneg (by omega)] at hr; exact hr
  have hwr : IntKind.i64.wrap (N : Int) = (N : Int) := by rw [IntKind.wrap_i64]; omega
  have hJN : J64 (N : Int) := by unfold J64; omega
  have hE : xsE (N : Int) = 0 := if_neg (by omega)
  have hraw : W64 raw := ⟨r0, r1⟩
  obtain ⟨w1, hw1'⟩ : ∃ W, W = w.alloc (.cells (VE x) 32) := ⟨_, rfl⟩
  rw [← hw1'] at hS0 X0 hb0
  have hnew := HP.new (k := 16) hS0.tidy (by omega) (N : Int) hJN
  clear hN6
  go_enter Try.func4, Try.ntmps4
  go_wp2_with fail
  rw [← hw1']
  clear hw1'
  generalize w.heap.size = gx at *
  refine hnew.mono ?_
  rintro e w2 (⟨_, g, rfl, hd⟩ | ⟨h0, _⟩)
  rotate_left
  · rw [hE] at h0; cases h0
  rw [Int.toNat_natCast] at hd
  obtain ⟨col2, p2, s2⟩ := hd
  have S2 := hS0.step s2 (rng0 (by omega))
  have X2 := X0.keep s2 (rng0 (by omega))
  clear hS0 X0 s2 hnew
  go_wp2_with fail
  refine (rxNew (k := 32) S2.tidy (by omega) (N : Int) hJN).mono ?_
  rintro e w3 (⟨_, gq, rfl, col3, p3, s3⟩ | ⟨h0, _⟩)
  rotate_left
  · rw [hE] at h0; cases h0
  rw [Int.toNat_natCast] at p3
  have S3 := S2.step s3 (rng0 (by omega))
  have X3 := X2.keep s3 (rng0 (by omega))
  have P3 := HP.keep p2 s3 (rngs_no (by omega)) (rng0 (by omega))
  clear S2 X2 s3 p2 hw0 hr hr2 hwr hE hJN
  have hNd := new_any A m d w3
  go_wp2_with fail
  refine hNd.mono ?_
  rintro e w4 ⟨rfl, rfl⟩
  have s4 := StepC.new S3.tidy (.cells #[.slice A m d, .int .i64 0] 69) 1 (fun _ => False)
  have S4 := S3.step s4 (fun h => h)
  have T4 : TwX PX w w3.heap.size A m d g gq gx x _ (newX N) (w3.alloc (.cells #[.slice A m d, .int .i64 0] 69)) :=
    ⟨⟨S4, ⟨hA, S4.below, S3.below.size, 0, heap_alloc_new w3 _, Nat.zero_le _⟩, dye_of⟩, HP.keep P3 s4 (fun _ _ h => h) (fun h => h), p3.keep s4 (fun _ _ h => h), X3.keep s4 (fun h => h)⟩
  generalize w3.heap.size = gd at *
  generalize w3.alloc (.cells #[.slice A m d, .int .i64 0] 69) = w4 at *
  clear S3 X3 P3 p3 s4 S4 hNd hA
  go_wp2
  go_loopw [16] (fun iv wr => ∃ (i : Nat) (col : Col) (q : ExSt), i ≤ p ∧ i ≤ 60 ∧ iv = .int .i64 (i : Int) ∧ TwX PX w gd A m d g gq gx x col q wr) (fun iv _ => p - (intOf iv).toNat)
  case atStart => exact ⟨0, _, _, Nat.zero_le _, Nat.zero_le _, rfl, T4⟩
  case round =>
    clear T4
    obtain ⟨i, col, q, hip, hi60, rfl, T⟩ := hrel
    by_cases hend : i < p ∧ i < 60
    · have hpi : (i : Int) < (p : Int) := by omega
      have h6i : (i : Int) < 60 := by omega
      obtain ⟨bB, oB, s, rfl, cS0, hs0, hs1⟩ := hB.2.2 i hend.1
      have cS := (cellB cS0 T.ds.since.below).1
      clear hB
      have TD := T.below HP (bdM wr)
      have hGe : w.heap.size ≤ wr.heap.size := T.ds.since.below.size
      obtain ⟨TA, XA⟩ : TwX PX w gd A m d g gq gx x (dye col (some wr.heap.size) 3) q (wr.drew.alloc (.cells (VE zeroE) 32)) ∧ Bx3 (dye col (some wr.heap.size) 3) (wr.drew.alloc (.cells (VE zeroE) 32)) wr.heap.size zeroE := TD.box HP zeroE
      have hcD := (cellB cS (bdM wr)).1
      have hcA := (cellB hcD (blX wr.drew zeroE)).1
      have HT := Lib.hid (And.intro TD (And.intro TA XA))
      clear T TD TA XA
      go_upto_region 9 with fail
      go_cut [17, 18] from 57 to 197 (fun vs vp wx => ∃ (G : Nat) (col' : Col) (y : En), vs = .int .i64 s ∧ vp = .pointer (some ⟨G, 0, none⟩) ∧ OkE y ∧ TwX PX w gd A m d g gq gx x col' q wx ∧ Bx3 col' wx G y)
      case first =>
        go_region_held3 (fun W => W.cell? ⟨bB, oB + i, none⟩ = some (.int .i64 s)) (first | exact cS | exact hcD | exact hcA | exact (cellB cS0 h2.low).1 | exact (cellB cS0 (h2.low.alloc h2.low.size _)).1 | exact (cellB cS0 (((h2.low.setCell (p := ⟨wr.heap.size, 0, none⟩) hGe _).setCell (p := ⟨wr.heap.size, 1, none⟩) hGe _).setCell (p := ⟨wr.heap.size, 2, none⟩) hGe _)).1) (first | (go_at_call 18; refine (entry_dk HT.out.2.1.ds.dk).mono ?_; rintro e W2 ⟨y, hy1, hy2, hy3, rfl, h2, g2⟩; have TX := HT.out.2.1.deckX HP HT.out.2.2 h2 g2; obtain ⟨v0, v1, v2⟩ := TX.2.enX; have f0 := TX.2.free 0; have f1 := TX.2.free 1; have f2 := TX.2.free 2) | (go_at_call 18; refine (entry_dk HT.out.1.ds.dk).mono ?_; rintro e W2 ⟨y, hy1, hy2, hy3, rfl, h2, g2⟩; have TX := (HT.out.1.deck HP h2 g2).1))
        · go_wp2
          go_meet
          exact ⟨_, _, y, rfl, rfl, ⟨short_szx hy1, ⟨hy2.1, by omega⟩, ⟨hy3.1, by omega⟩⟩, (TX.box HP y).1, (TX.box HP y).2⟩
        · go_wp2
          go_meet
          exact ⟨_, _, y, rfl, rfl, ⟨short_szx hy1, ⟨hy2.1, by omega⟩, ⟨hy3.1, by omega⟩⟩, (TX.1.fill HP TX.2 y).1, (TX.1.fill HP TX.2 y).2⟩
      case rest =>
        obtain ⟨G, col1, y1, rfl, rfl, ok1, T1, X1⟩ := hcut
        clear HT cS cS0 hcD hcA hGe
        generalize wc = W1 at *
        obtain ⟨M, hMm, hM⟩ := mask_any (s / 8) 15 (by omega)
        have hM' : bits .and .i64 (s / 8) 15 = (M : Int) := hM
        obtain ⟨M2, hM2m, hM2⟩ := mask_any (s / 128) 15 (by omega)
        have hM2' : bits .and .i64 (s / 128) 15 = (M2 : Int) := hM2
        obtain ⟨V, hVm, hV⟩ := mask_any s 7 (by omega)
        have hV' : bits .and .i64 s 7 = (V : Int) := hV
        clear hM hM2 hV
        have HT := Lib.hid (And.intro T1 (And.intro X1 ok1))
        clear T1 X1 ok1
        go_upto_if 76 with fail
        go_cut [18] from 57 to 197 (fun vp wx => ∃ y' : En, vp = .pointer (some ⟨G, 0, none⟩) ∧ OkE y' ∧ TwX PX w gd A m d g gq gx x col1 q wx ∧ Bx3 col1 wx G y')
        case first =>
          by_cases hM0 : M = 0
          · subst hM0
            obtain ⟨v0, v1, v2⟩ := HT.out.2.1.enX
            have f0 := HT.out.2.1.free 0
            have f1 := HT.out.2.1.free 1
            have f2 := HT.out.2.1.free 2
            obtain ⟨z0, z1, z2⟩ := HT.out.1.bx.enX
            go_wp2
            go_meet
            exact ⟨x, rfl, hx, (HT.out.1.fill HP HT.out.2.1 x).1, (HT.out.1.fill HP HT.out.2.1 x).2⟩
          · have g0 : ((M : Int) == 0) = false := by rw [beq_eq_false_iff_ne]; omega
            go_wp2
            go_meet
            exact ⟨y1, rfl, HT.out.2.2, HT.out.1, HT.out.2.1⟩
        case rest =>
          obtain ⟨y2, rfl, ok2, T2, X2⟩ := hcut
          clear HT hM' hMm
          generalize wc = W2 at *
          have HT := Lib.hid (And.intro T2 (And.intro X2 ok2))
          clear T2 X2 ok2
          go_upto_if 81 with fail
          go_cut [18] from 57 to 197 (fun vp wx => ∃ y' : En, vp = .pointer (some ⟨G, 0, none⟩) ∧ OkE y' ∧ TwX PX w gd A m d g gq gx x col1 q wx ∧ Bx3 col1 wx G y')
          case first =>
            by_cases hM0 : M2 = 0
            · subst hM0
              obtain ⟨v0, v1, v2⟩ := HT.out.2.1.enX
              have f1 := HT.out.2.1.free 1
              go_wp2
              go_meet
              exact ⟨(y2.1, raw, y2.2.2), rfl, ⟨HT.out.2.2.1, hraw, HT.out.2.2.2.2⟩, (HT.out.1.put HP HT.out.2.1 1 (.int .u64 raw)).1, (HT.out.1.put HP HT.out.2.1 1 (.int .u64 raw)).2⟩
            · have g0 : ((M2 : Int) == 0) = false := by rw [beq_eq_false_iff_ne]; omega
              go_wp2
              go_meet
              exact ⟨y2, rfl, HT.out.2.2, HT.out.1, HT.out.2.1⟩
          case rest =>
            obtain ⟨y, rfl, ok, T3, X3⟩ := hcut
            clear HT hM2' hM2m
            generalize wc = W3 at *
            have T4 := T3.below HP (bdM W3)
            have X4 : Bx3 col1 W3.drew G y := X3.keep (P := fun _ => False) (StepC.below T3.tidy (bdM W3)) (fun h => h)
            have HT := Lib.hid (And.intro T3 (And.intro X3 (And.intro T4 X4)))
            clear T3 X3 T4 X4
            have hV7 : V = 0 ∨ V = 1 ∨ V = 2 ∨ V = 3 ∨ V = 4 ∨ V = 5 ∨ 6 ≤ V := by omega
            go_upto_block 2 with fail
            go_cut [19, 20, 21, 22] from 57 to 197 (fun va vb vc vd wx => ∃ (col' : Col) (q' : ExSt), TwX PX w gd A m d g gq gx x col' q' wx ∧ Bx3 col' wx G y)
            case first =>
              rcases hV7 with rfl | rfl | rfl | rfl | rfl | rfl | hV6
              · as_aux_lemma =>
                  have hP1 := HP.put HT.out.2.2.1.px HT.out.2.2.1.tidy y ok.1 ok.2.1 ok.2.2
                  have hP2 := fun (col : Col) (W : World) (h : RefX col 32 W gq q) (ht : Tidy col W) => rxPut h ht y ok.2.1 ok.2.2
                  generalize q.put y = gv at *
                  have hne : (gv.1 != gv.1) = false := by simp
                  go_wp2
                  go_region_held3 (fun W => W.cell? ⟨G, 0, none⟩ = some (.string y.1) ∧ W.cell? ⟨G, 1, none⟩ = some (.int .u64 y.2.1) ∧ W.cell? ⟨G, 2, none⟩ = some (.int .u64 y.2.2)) (first | exact HT.out.2.1.enX | exact HT.out.2.2.2.enX | exact X5.enX | exact X6.enX) (first | (go_at_call 12; refine hP1.mono ?_; rintro e w5 ⟨rfl, hd⟩; obtain ⟨col5, d5, p5, r5, b5, X5⟩ := HT.out.2.2.1.did HP HT.out.2.2.2 hd) | (go_at_call 19; refine (hP2 _ _ r5 d5.tidy).mono ?_; rintro e w6 ⟨rfl, hd6⟩; obtain ⟨col6, T6, X6, s6⟩ := TwX.then_ HP d5 p5 b5 X5 hd6))
                  all_goals
                    have hT6 := And.intro T6 X6
                    clear hP1 hP2 HT
                    go_wp2
                    go_meet
                    exact ⟨_, _, hT6.1, hT6.2⟩
              · as_aux_lemma =>
                  have hP1 := HP.put HT.out.2.2.1.px HT.out.2.2.1.tidy y ok.1 ok.2.1 ok.2.2
                  have hP2 := fun (col : Col) (W : World) (h : RefX col 32 W gq q) (ht : Tidy col W) => rxPut h ht y ok.2.1 ok.2.2
                  generalize q.put y = gv at *
                  have hne : (gv.1 != gv.1) = false := by simp
                  go_wp2
                  go_region_held3 (fun W => W.cell? ⟨G, 0, none⟩ = some (.string y.1) ∧ W.cell? ⟨G, 1, none⟩ = some (.int .u64 y.2.1) ∧ W.cell? ⟨G, 2, none⟩ = some (.int .u64 y.2.2)) (first | exact HT.out.2.1.enX | exact HT.out.2.2.2.enX | exact X5.enX | exact X6.enX) (first | (go_at_call 12; refine hP1.mono ?_; rintro e w5 ⟨rfl, hd⟩; obtain ⟨col5, d5, p5, r5, b5, X5⟩ := HT.out.2.2.1.did HP HT.out.2.2.2 hd) | (go_at_call 19; refine (hP2 _ _ r5 d5.tidy).mono ?_; rintro e w6 ⟨rfl, hd6⟩; obtain ⟨col6, T6, X6, s6⟩ := TwX.then_ HP d5 p5 b5 X5 hd6))
                  all_goals
                    have hT6 := And.intro T6 X6
                    clear hP1 hP2 HT
                    go_wp2
                    go_meet
                    exact ⟨_, _, hT6.1, hT6.2⟩
              · as_aux_lemma =>
                  have hP1 := HP.put HT.out.2.2.1.px HT.out.2.2.1.tidy y ok.1 ok.2.1 ok.2.2
                  have hP2 := fun (col : Col) (W : World) (h : RefX col 32 W gq q) (ht : Tidy col W) => rxPut h ht y ok.2.1 ok.2.2
                  generalize q.put y = gv at *
                  have hne : (gv.1 != gv.1) = false := by simp
                  go_wp2
                  go_region_held3 (fun W => W.cell? ⟨G, 0, none⟩ = some (.string y.1) ∧ W.cell? ⟨G, 1, none⟩ = some (.int .u64 y.2.1) ∧ W.cell? ⟨G, 2, none⟩ = some (.int .u64 y.2.2)) (first | exact HT.out.2.1.enX | exact HT.out.2.2.2.enX | exact X5.enX | exact X6.enX) (first | (go_at_call 12; refine hP1.mono ?_; rintro e w5 ⟨rfl, hd⟩; obtain ⟨col5, d5, p5, r5, b5, X5⟩ := HT.out.2.2.1.did HP HT.out.2.2.2 hd) | (go_at_call 19; refine (hP2 _ _ r5 d5.tidy).mono ?_; rintro e w6 ⟨rfl, hd6⟩; obtain ⟨col6, T6, X6, s6⟩ := TwX.then_ HP d5 p5 b5 X5 hd6))
                  all_goals
                    have hT6 := And.intro T6 X6
                    clear hP1 hP2 HT
                    go_wp2
                    go_meet
                    exact ⟨_, _, hT6.1, hT6.2⟩
              · as_aux_lemma =>
                  have hP1 := HP.add HT.out.2.2.1.px HT.out.2.2.1.tidy y.1 y.2.1 ok.1 ok.2.1
                  have hP2 := fun (col : Col) (W : World) (h : RefX col 32 W gq q) (ht : Tidy col W) => rxAdd h ht y.1 y.2.1 ok.2.1
                  generalize q.add y.1 y.2.1 = gv at *
                  have hne : (gv.1 != gv.1) = false := by simp
                  go_wp2
                  go_region_held3 (fun W => W.cell? ⟨G, 0, none⟩ = some (.string y.1) ∧ W.cell? ⟨G, 1, none⟩ = some (.int .u64 y.2.1) ∧ W.cell? ⟨G, 2, none⟩ = some (.int .u64 y.2.2)) (first | exact HT.out.2.1.enX | exact HT.out.2.2.2.enX | exact X5.enX | exact X6.enX) (first | (go_at_call 13; refine hP1.mono ?_; rintro e w5 ⟨rfl, hd⟩; obtain ⟨col5, d5, p5, r5, b5, X5⟩ := HT.out.2.2.1.did HP HT.out.2.2.2 hd) | (go_at_call 20; refine (hP2 _ _ r5 d5.tidy).mono ?_; rintro e w6 ⟨rfl, hd6⟩; obtain ⟨col6, T6, X6, s6⟩ := TwX.then_ HP d5 p5 b5 X5 hd6))
                  all_goals
                    have hT6 := And.intro T6 X6
                    clear hP1 hP2 HT
                    go_wp2
                    go_meet
                    exact ⟨_, _, hT6.1, hT6.2⟩
              · as_aux_lemma =>
                  have hP1 := HP.add HT.out.2.2.1.px HT.out.2.2.1.tidy y.1 y.2.1 ok.1 ok.2.1
                  have hP2 := fun (col : Col) (W : World) (h : RefX col 32 W gq q) (ht : Tidy col W) => rxAdd h ht y.1 y.2.1 ok.2.1
                  generalize q.add y.1 y.2.1 = gv at *
                  have hne : (gv.1 != gv.1) = false := by simp
                  go_wp2
                  go_region_held3 (fun W => W.cell? ⟨G, 0, none⟩ = some (.string y.1) ∧ W.cell? ⟨G, 1, none⟩ = some (.int .u64 y.2.1) ∧ W.cell? ⟨G, 2, none⟩ = some (.int .u64 y.2.2)) (first | exact HT.out.2.1.enX | exact HT.out.2.2.2.enX | exact X5.enX | exact X6.enX) (first | (go_at_call 13; refine hP1.mono ?_; rintro e w5 ⟨rfl, hd⟩; obtain ⟨col5, d5, p5, r5, b5, X5⟩ := HT.out.2.2.1.did HP HT.out.2.2.2 hd) | (go_at_call 20; refine (hP2 _ _ r5 d5.tidy).mono ?_; rintro e w6 ⟨rfl, hd6⟩; obtain ⟨col6, T6, X6, s6⟩ := TwX.then_ HP d5 p5 b5 X5 hd6))
                  all_goals
                    have hT6 := And.intro T6 X6
                    clear hP1 hP2 HT
                    go_wp2
                    go_meet
                    exact ⟨_, _, hT6.1, hT6.2⟩
              · as_aux_lemma =>
                  have hP1 := HP.add HT.out.2.2.1.px HT.out.2.2.1.tidy y.1 y.2.1 ok.1 ok.2.1
                  have hP2 := fun (col : Col) (W : World) (h : RefX col 32 W gq q) (ht : Tidy col W) => rxAdd h ht y.1 y.2.1 ok.2.1
                  generalize q.add y.1 y.2.1 = gv at *
                  have hne : (gv.1 != gv.1) = false := by simp
                  go_wp2
                  go_region_held3 (fun W => W.cell? ⟨G, 0, none⟩ = some (.string y.1) ∧ W.cell? ⟨G, 1, none⟩ = some (.int .u64 y.2.1) ∧ W.cell? ⟨G, 2, none⟩ = some (.int .u64 y.2.2)) (first | exact HT.out.2.1.enX | exact HT.out.2.2.2.enX | exact X5.enX | exact X6.enX) (first | (go_at_call 13; refine hP1.mono ?_; rintro e w5 ⟨rfl, hd⟩; obtain ⟨col5, d5, p5, r5, b5, X5⟩ := HT.out.2.2.1.did HP HT.out.2.2.2 hd) | (go_at_call 20; refine (hP2 _ _ r5 d5.tidy).mono ?_; rintro e w6 ⟨rfl, hd6⟩; obtain ⟨col6, T6, X6, s6⟩ := TwX.then_ HP d5 p5 b5 X5 hd6))
                  all_goals
                    have hT6 := And.intro T6 X6
                    clear hP1 hP2 HT
                    go_wp2
                    go_meet
                    exact ⟨_, _, hT6.1, hT6.2⟩
              · as_aux_lemma =>
                  have e0 : ((V : Int) == 0) = false := beq_false_of_ne (by omega)
                  have e1 : ((V : Int) == 1) = false := beq_false_of_ne (by omega)
                  have e2 : ((V : Int) == 2) = false := beq_false_of_ne (by omega)
                  have e3 : ((V : Int) == 3) = false := beq_false_of_ne (by omega)
                  have e4 : ((V : Int) == 4) = false := beq_false_of_ne (by omega)
                  have e5 : ((V : Int) == 5) = false := beq_false_of_ne (by omega)
                  have hC := HP.take HT.out.1.px HT.out.1.tidy y.1 ok.1
                  have hC2 := fun (col : Col) (W : World) (h : RefX col 32 W gq q) (ht : Tidy col W) => rxTake h ht y.1
                  obtain ⟨v0, _, _⟩ := HT.out.2.1.enX
                  generalize q.get y.1 = gv at *
                  generalize q.take y.1 = q2 at *
                  have hne : (gv.2 != gv.2) = false := by simp
                  have hQ := eqIn_entry gv.1.1 gv.1.1 gv.1.2.1 gv.1.2.1 gv.1.2.2 gv.1.2.2
                  rw [decide_eq_true rfl] at hQ
                  go_wp2_with fail
                  refine hC.mono ?_
                  rintro e w5 ⟨rfl, hd⟩
                  obtain ⟨col5, d5, p5, r5, b5, X5⟩ := HT.out.1.did HP HT.out.2.1 hd
                  obtain ⟨d6, p6, r6, b6, X6⟩ := TwX.mid HP d5 p5 r5 b5 X5 (blX w5 gv.1)
                  have Ya : BoxC col5 (w5.alloc (.cells (VE gv.1) 32)) w5.heap.size 0 (VE gv.1) 32 := ⟨heap_alloc_new w5 _, d5.tidy _ (Nat.le_refl _)⟩
                  have hC3 := hC2 _ _ r6 d6.tidy
                  obtain ⟨z0, _, _⟩ := X6.enX
                  clear hC hd d5 p5 r5 b5 X5 v0 hC2
                  go_wp2_with fail
                  refine hC3.mono ?_
                  rintro e w7 ⟨rfl, hd⟩
                  obtain ⟨col7, T7, X7, s7⟩ := TwX.then_ HP d6 p6 b6 X6 hd
                  have Y8 := (Ya.keep s7 (rng0 (by omega))).keepB (blX w7 gv.1) (Ya.keep s7 (rng0 (by omega))).lt
                  have T8 := T7.below HP (blX w7 gv.1)
                  have X8 := X7.keepB (blX w7 gv.1) X7.lt
                  have U8 : BoxC col7 (w7.alloc (.cells (VE gv.1) 32)) w7.heap.size 0 (VE gv.1) 32 := ⟨heap_alloc_new w7 _, T7.tidy _ (Nat.le_refl _)⟩
                  obtain ⟨a0, a1, a2⟩ := Y8.enX
                  obtain ⟨c0, c1, c2⟩ := U8.enX
                  have hT8 := Lib.hid (And.intro T8 X8)
                  clear hC3 hd d6 p6 r6 b6 X6 z0 Ya s7 T7 X7 T8 X8 Y8 U8 HT
                  go_wp2_with fail
                  go_meet
                  exact ⟨_, _, hT8.out.1, hT8.out.2⟩
            case rest =>
              as_aux_lemma =>
                clear HT hV7 hV' hVm
                obtain ⟨col5, q5, T5, X5⟩ := hcut
                generalize wc = W5 at *
                have hC := HP.get T5.px T5.tidy y.1 ok.1
                have hC2 := fun (W : World) (h : RefX col5 32 W gq q5) (ht : Tidy col5 W) => rxGet h ht y.1
                have hL := fun (W : World) (h : PX col5 16 W g q5) (ht : Tidy col5 W) => HP.least h ht
                have hL2 := fun (W : World) (h : RefX col5 32 W gq q5) => rxLeast h
                generalize q5.get y.1 = gv at *
                generalize q5.least = lv at *
                have hne : (gv.2 != gv.2) = false := by simp
                have hne2 : (lv.2 != lv.2) = false := by simp
                have hQ := eqIn_entry gv.1.1 gv.1.1 gv.1.2.1 gv.1.2.1 gv.1.2.2 gv.1.2.2
                rw [decide_eq_true rfl] at hQ
                have hQ2 := eqIn_entry lv.1.1 lv.1.1 lv.1.2.1 lv.1.2.1 lv.1.2.2 lv.1.2.2
                rw [decide_eq_true rfl] at hQ2
                obtain ⟨v0, _, _⟩ := X5.enX
                go_wp2_with fail
                refine hC.mono ?_
                rintro e w6 ⟨rfl, b6⟩
                have B6 := b6.alloc b6.size (.cells (VE gv.1) 32)
                have T6 := T5.below HP B6
                have X6 := X5.keepB B6 X5.lt
                have Y6 : BoxN (w6.alloc (.cells (VE gv.1) 32)) w6.heap.size (VE gv.1) 32 := ⟨heap_alloc_new w6 _, rfl⟩
                have hC3 := hC2 _ T6.rx T6.tidy
                obtain ⟨z0, _, _⟩ := X6.enX
                clear hC hC2 b6 B6 T5 X5 v0
                go_wp2_with fail
                refine hC3.mono ?_
                rintro e w8 ⟨rfl, b8⟩
                have B8 := b8.alloc b8.size (.cells (VE gv.1) 32)
                have T8 := T6.below HP B8
                have Z6 := Y6.keepB B8 Y6.lt
                have Y8 : BoxN (w8.alloc (.cells (VE gv.1) 32)) w8.heap.size (VE gv.1) 32 := ⟨heap_alloc_new w8 _, rfl⟩
                have hC4 := hL _ T8.px T8.tidy
                clear hC3 hL b8 B8 T6 X6 z0 Y6
                go_wp2_with fail
                refine hC4.mono ?_
                rintro e w10 ⟨rfl, b10⟩
                have B10 := b10.alloc b10.size (.cells (VE lv.1) 32)
                have T10 := T8.below HP B10
                have P6 := Z6.keepB B10 Z6.lt
                have P8 := Y8.keepB B10 Y8.lt
                have Y10 : BoxN (w10.alloc (.cells (VE lv.1) 32)) w10.heap.size (VE lv.1) 32 := ⟨heap_alloc_new w10 _, rfl⟩
                have hC5 := hL2 _ T10.rx
                clear hC4 hL2 b10 B10 T8 Z6 Y8
                go_wp2_with fail
                refine hC5.mono ?_
                rintro e w12 ⟨rfl, b12⟩
                have B12 := b12.alloc b12.size (.cells (VE lv.1) 32)
                have T12 := T10.below HP B12
                have Q6 := P6.keepB B12 P6.lt
                have Q8 := P8.keepB B12 P8.lt
                have Q10 := Y10.keepB B12 Y10.lt
                have Q12 : BoxN (w12.alloc (.cells (VE lv.1) 32)) w12.heap.size (VE lv.1) 32 := ⟨heap_alloc_new w12 _, rfl⟩
                obtain ⟨LQ, hLQ⟩ : ∃ LQ, q5.l.length = LQ := ⟨_, rfl⟩
                obtain ⟨A1, c1, x2, R1, _⟩ := T12.rx.rows
                rw [hLQ] at x2 R1
                have hcp1 := R1.cap
                have hmx1 := R1.max
                clear hC5 b12 B12 T10 P6 P8 Y10
                go_wp2_with fail
                generalize hW13 : w12.alloc (.cells #[.string lv.1.1, .int .u64 lv.1.2.1, .int .u64 lv.1.2.2] 32) = W13 at *
                generalize w12.heap.size = G4 at *
                generalize w10.heap.size = G3 at *
                generalize w8.heap.size = G2 at *
                generalize w6.heap.size = G1 at *
                clear hW13
                have HT13 := Lib.hid T12
                have HE1 := Lib.hid (T12.ents HP hLQ)
                have HR1 := Lib.hid (fun (W : World) (hb : Below W13.heap.size W13 W) => R1.below hb)
                have hLn := Lib.hid (fun (W : World) (hb : Below W13.heap.size W13 W) => HP.len (T12.below HP hb).px (T12.below HP hb).tidy)
                have HLQ := Lib.hid hLQ
                have hll : ((LQ : Int) != (LQ : Int)) = false := by simp
                clear T12 hLQ R1
                go_region_held3 (fun W => W.cell? ⟨G1, 0, none⟩ = some (.string gv.1.1) ∧ W.cell? ⟨G1, 1, none⟩ = some (.int .u64 gv.1.2.1) ∧ W.cell? ⟨G1, 2, none⟩ = some (.int .u64 gv.1.2.2) ∧ W.cell? ⟨G2, 0, none⟩ = some (.string gv.1.1) ∧ W.cell? ⟨G2, 1, none⟩ = some (.int .u64 gv.1.2.1) ∧ W.cell? ⟨G2, 2, none⟩ = some (.int .u64 gv.1.2.2) ∧ W.cell? ⟨G3, 0, none⟩ = some (.string lv.1.1) ∧ W.cell? ⟨G3, 1, none⟩ = some (.int .u64 lv.1.2.1) ∧ W.cell? ⟨G3, 2, none⟩ = some (.int .u64 lv.1.2.2) ∧ W.cell? ⟨G4, 0, none⟩ = some (.string lv.1.1) ∧ W.cell? ⟨G4, 1, none⟩ = some (.int .u64 lv.1.2.1) ∧ W.cell? ⟨G4, 2, none⟩ = some (.int .u64 lv.1.2.2) ∧ W.cell? ⟨gq, 1, none⟩ = some (.slice A1 LQ c1)) (first | exact keepX Q6 Q8 Q10 Q12 x2 d3 | exact keepX Q6 Q8 Q10 Q12 x2 d2 | exact keepX Q6 Q8 Q10 Q12 x2 d1 | exact keepX Q6 Q8 Q10 Q12 x2 (bdM _)) (first
                  | (go_at_call 15; refine (HE1.out _ (bdM _)).mono ?_; rintro e w14 ⟨A6, c6, rfl, R6, d1⟩)
                  | (go_at_call 24; refine (sameEnX R6 (HR1.out _ d1) d1).mono ?_; rintro e w15 ⟨rfl, d2⟩)
                  | (go_at_call 14; refine (hLn.out _ d2).mono ?_; rintro e w16 ⟨rfl, b16⟩; rw [HLQ.out]; have d3 := below_then d2 b16))
                all_goals
                  have T14 := HT13.out.below HP d3
                  clear HT13 HE1 hLn HR1 Q6 Q8 Q10 Q12 x2
                  go_wp2
                  go_roundw
                  case rel => exact ⟨i + 1, _, _, by omega, by omega, by go_num, T14⟩
                  case measure => (simp [intOf] <;> omega)
    · have hE := Lib.hid T.ds.since
      have hcs : ¬ (i : Int) < (p : Int) ∨ ((i : Int) < (p : Int) ∧ ¬ (i : Int) < 60) := by omega
      clear T hB hend
      rcases hcs with hpi | ⟨hpi, h6i⟩
      all_goals
        go_wp2_with fail
        refine (xawake_any HP _).mono ?_
        rintro e w9 ⟨rfl, b9⟩
        have hb := (hE.out.belowL b9).below
        clear hE b9
        go_wp2
        go_ret
        exact ⟨rfl, hb⟩
end Go.Proofs.Ytjkomnjkolggnaa
