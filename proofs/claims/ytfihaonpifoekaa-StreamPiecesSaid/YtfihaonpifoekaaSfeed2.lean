/- stream.Feed. Conditions: none beyond those typed. -/
import Derived.Test.YtfihaonpifoekaaSfeed
namespace Go.Proofs.Ytfihaonpifoekaa
open Go.ChangeShapes Go.WideShapes Go.ChangeAt Go.RowKit
set_option linter.unusedVariables false
set_option linter.unusedSimpArgs false
set_option maxRecDepth 100000

/-- What Feed gives back: a stream, and chunks that lie in new memory. -/
def FeedOut (p : St × List Ck) (w : World) (e : Ending) (w' : World) : Prop :=
  ∃ A n c Ac nc cc R, e = .returned (.tuple #[.agg #[.slice A n c, .int .u64 p.1.2.1, .bool p.1.2.2], .slice Ac nc cc]) ∧ Own w' w.heap.size (.slice A n c) p.1.1 ∧ OwnC w' w.heap.size (.slice Ac nc cc) R ∧ Stays w' w.heap.size w'.heap.size none R p.2 ∧ Below w.heap.size w w'
def lenS : Value → Nat | .slice _ n _ => n | _ => 0
/-- What stands in a round of Feed. -/
def FdR (w : World) (s : St) (l : List Int) (m : Nat) (u vC : Value) (W : World) : Prop :=
  ∃ (b : List Int) (k : Int) (br : Bool) (r : List Int) (C : List Ck) (A1 : Option Addr) (n1 c1 : Nat) (P1 : Option Addr) (m1 d1 : Nat) (R : List RawC) (bb : Nat),
    u = .slice P1 m1 d1 ∧ Rd w P1 m1 d1 r ∧ SBox W w.heap.size A1 n1 c1 k br ∧ SBox W (w.heap.size + 1) none 0 0 0 false ∧ Own W bb (.slice A1 n1 c1) b ∧ FdK s l (b, k, br) r C ∧
    OwnC W (w.heap.size + 2) vC R ∧ Stays W (w.heap.size + 2) bb vC.ownBlock R C ∧ (∀ q, vC.ownBlock = some q → (Value.slice A1 n1 c1).ownBlock ≠ some q) ∧ w.heap.size + 2 ≤ bb ∧ bb ≤ W.heap.size ∧
    Below w.heap.size w W ∧ C.length + m1 ≤ m ∧ (s.2.2 = true → br = true)
theorem put3_grown (w : World) (g : Nat) (v0 v1 v2 : Value) : w.grownBy (((w.setCell ⟨g, 0, none⟩ v0).setCell ⟨g, 1, none⟩ v1).setCell ⟨g, 2, none⟩ v2) (some g) :=
  ⟨rfl, rfl, rfl, by simp [World.setCell], fun q _ hq => by
    have hne : q ≠ g := fun e => hq (by rw [e])
    rw [Below.heap_setCell _ ⟨g, 2, none⟩ _ q hne, Below.heap_setCell _ ⟨g, 1, none⟩ _ q hne, Below.heap_setCell _ ⟨g, 0, none⟩ _ q hne]⟩
theorem Stays.grownLow {w w' : World} {lo B : Nat} {x row : Option Nat} {R : List RawC} {L : List Ck} (h : Stays w lo B x R L) (hg : w.grownBy w' row) (hB : B ≤ w.heap.size) (hr : ∀ k, row = some k → k < lo) : Stays w' lo B x R L :=
  h.move fun b h0 h1 h2 => hg.block b (by omega) (fun e => by have := hr b e.symm; omega)
theorem Own.low {w : World} {bb : Nat} {v : Value} {l : List Int} (h : Own w bb v l) {g : Nat} (hg : g < bb) : v.ownBlock = none ∨ v.ownBlock ≠ some g := .inr fun e => by have := h.lt _ e; omega
theorem OwnC.low {w : World} {bb : Nat} {v : Value} {R : List RawC} (h : OwnC w bb v R) {g : Nat} (hg : g < bb) : v.ownBlock = none ∨ v.ownBlock ≠ some g := .inr fun e => by have := h.lt _ e; omega
theorem SBox.farG {w w' : World} {g : Nat} {A : Option Addr} {n c : Nat} {k : Int} {br : Bool} {row : Option Nat} (h : SBox w g A n c k br) (hg : w.grownBy w' row) (hr : ∀ q, row = some q → q ≠ g) : SBox w' g A n c k br := h.grown hg fun e => hr g e.symm rfl
/-- The end of Feed. -/
theorem FeedOut.mk' {w W : World} {s : St} {l r : List Int} {b : List Int} {k : Int} {br : Bool} {C : List Ck} {A1 : Option Addr} {n1 c1 : Nat} {Ac : Option Addr} {cc : Nat} {R : List RawC} {bb : Nat}
    (hK : FdK s l (b, k, br) r C) (he : r = [] ∨ br = true) (hO : Own W bb (.slice A1 n1 c1) b) (hC : OwnC W (w.heap.size + 2) (.slice Ac R.length cc) R)
    (hSt : Stays W (w.heap.size + 2) bb (Value.slice Ac R.length cc).ownBlock R C) (hb1 : w.heap.size + 2 ≤ bb) (hb2 : bb ≤ W.heap.size) (hB : Below w.heap.size w W) (v0 v1 v2 : Value) :
    FeedOut (feed s l) w (.returned (.tuple #[.agg #[.slice A1 n1 c1, .int .u64 k, .bool br], .slice Ac R.length cc])) (((W.setCell ⟨w.heap.size + 1, 0, none⟩ v0).setCell ⟨w.heap.size + 1, 1, none⟩ v1).setCell ⟨w.heap.size + 1, 2, none⟩ v2) := by
  rw [hK.end_ (s := (b, k, br)) he]
  have hg := put3_grown W (w.heap.size + 1) v0 v1 v2
  have hO' := hO.grown hg (hO.low (by omega))
  have hC' := hC.grown hg (hC.low (by omega))
  have hS' := hSt.grownLow hg hb2 (fun k hk => by injection hk with hk; omega)
  exact ⟨_, _, _, _, _, _, R, rfl, hO'.weaken (by omega), hC'.weaken (by omega), (hS'.wider (Nat.le_trans hb2 hg.size) (.inr (.inl rfl))).lower (by omega), below_put3 hB (by omega) _ _ _⟩
theorem FeedOut.rdC {p : St × List Ck} {w w' : World} {e : Ending} (h : FeedOut p w e w') :
    ∃ A n c Ac nc cc, e = .returned (.tuple #[.agg #[.slice A n c, .int .u64 p.1.2.1, .bool p.1.2.2], .slice Ac nc cc]) ∧ Rd w' A n c p.1.1 ∧ RdC w' Ac nc cc p.2 ∧ Below w.heap.size w w' := by
  obtain ⟨A, n, c, Ac, nc, cc, R, he, h1, h2, h3, h4⟩ := h
  exact ⟨A, n, c, Ac, nc, cc, he, h1.reads, ⟨R, h2.reads, h3.tells⟩, h4⟩
set_option maxHeartbeats 2000000 in
theorem feed_any (A : Option Addr) (n c : Nat) (s : St) (P : Option Addr) (m d : Nat) (l : List Int) (w : World) (hS : Sound6 s) (hA : Rd w A n c s.1) (hP : Rd w P m d l) (hm : s.2.2 = false → m ≤ 900000000) :
    Calls Try.prog 9 #[.agg #[.slice A n c, .int .u64 s.2.1, .bool s.2.2], .slice P m d] w (FeedOut (feed s l) w) := by
  obtain ⟨b0, k0, br0⟩ := s
  have hB2 : Below w.heap.size w ((w.alloc (.cells #[.slice A n c, .int .u64 k0, .bool br0] 29)).alloc (.cells #[.slice none 0 0, .int .u64 0, .bool false] 29)) :=
    ((Below.refl _ _).alloc (Nat.le_refl _) _).alloc (by simp) _
  have hS1 := (SBox.new w A n c k0 br0).below ((Below.refl _ _).alloc (Nat.le_refl _) (.cells #[.slice none 0 0, .int .u64 0, .bool false] 29))
  have hZ1 := SBox.new (w.alloc (.cells #[.slice A n c, .int .u64 k0, .bool br0] 29)) none 0 0 0 false
  rw [show (w.alloc (.cells #[.slice A n c, .int .u64 k0, .bool br0] 29)).heap.size = w.heap.size + 1 from by simp] at hZ1
  have hsz : ((w.alloc (.cells #[.slice A n c, .int .u64 k0, .bool br0] 29)).alloc (.cells #[.slice none 0 0, .int .u64 0, .bool false] 29)).heap.size = w.heap.size + 2 := by simp
  have hx0 := hS1.c0
  have hA2 := hA.below hB2
  have hnn := open_len hS.1
  have hnl := hA.len
  have hml := hP.len
  have hn : n ≤ 140737488350000 := by omega
  have hK0 := FdK.zero (l := l) hS hP.bytes
  go_enter Try.func9, Try.ntmps9
  go_wp2_with fail
  obtain ⟨W2, hW2⟩ : ∃ W2, W2 = (w.alloc (.cells #[.slice A n c, .int .u64 k0, .bool br0] 29)).alloc (.cells #[.slice none 0 0, .int .u64 0, .bool false] 29) := ⟨_, rfl⟩
  rw [← hW2] at hB2 hS1 hZ1 hsz hx0 hA2 ⊢
  clear hW2
  refine (cloneB_any _ _ _ b0 _ hA2 hn).mono ?_
  rintro e w3 ⟨v3, rfl, hO3, hb3⟩
  obtain ⟨A3, n3, c3, rfl, hr3⟩ := hO3.form
  have hB3 := hB2.trans (hb3.mono hB2.size)
  have S3 := hS1.below hb3
  have Z3 := hZ1.below hb3
  have f0 := S3.frozen 0
  have x0 := S3.c0
  have S4 := S3.put0 A3 n3 c3
  have Z4 := Z3.farCell ⟨w.heap.size, 0, none⟩ (.slice A3 n3 c3) (by simp)
  have hvf : (Value.slice A3 n3 c3).ownBlock = none ∨ (Value.slice A3 n3 c3).ownBlock ≠ some w.heap.size := .inr fun e => by have := hO3.lt _ e; omega
  have hO4 := hO3.farCell ⟨w.heap.size, 0, none⟩ (.slice A3 n3 c3) hvf
  have hB4 := hB3.setCell (p := ⟨w.heap.size, 0, none⟩) (Nat.le_refl _) (.slice A3 n3 c3)
  have hz4 : W2.heap.size ≤ (w3.setCell ⟨w.heap.size, 0, none⟩ (.slice A3 n3 c3)).heap.size := by simpa [World.setCell] using hb3.size
  clear hx0 hA2 hB2 hS1 hZ1 hr3 hO3 hB3 hb3 S3 Z3 hvf
  go_wp2
  generalize w3.setCell ⟨w.heap.size, 0, none⟩ (.slice A3 n3 c3) = W4 at *
  go_loopw [1, 6] (fun u vC W => FdR w (b0, k0, br0) l m u vC W) (fun u _ _ => lenS u)
  case atStart => exact ⟨b0, k0, br0, l, [], A3, n3, c3, P, m, d, [], W2.heap.size, rfl, hP, S4, Z4, hO4, hK0, OwnC.nil _ _, Stays.nil _ _ _ _, (by intro q hq; cases hq), by omega, hz4, hB4, by rw [List.length_nil]; omega, fun h => h⟩
  case round =>
    clear S4 Z4 hO4 hB4 hK0 hz4
    obtain ⟨b, k, br, r, C, A1, n1, c1, P1, m1, d1, R, bb, rfl, hRp, hS1, hZ1, hO, hK, hC, hSt, hap, hb1, hb2, hB, hcnt, hbr⟩ := hrel
    have hrl := hRp.len
    have x0 := hS1.c0
    have x1 := hS1.c1
    have x2 := hS1.c2
    have y0 := hZ1.c0
    have y1 := hZ1.c1
    have y2 := hZ1.c2
    have e0 := hZ1.frozen 0
    have e1 := hZ1.frozen 1
    have e2 := hZ1.frozen 2
    have f0 := hS1.frozen 0
    have f1 := hS1.frozen 1
    have f2 := hS1.frozen 2
    by_cases hend : m1 = 0 ∨ br = true
    · obtain ⟨Ac, cc, rfl, hrc⟩ := hC.form rfl
      have HE : r = [] ∨ br = true := hend.imp (fun h => List.eq_nil_of_length_eq_zero (by omega)) id
      have HE' := Lib.hid HE
      by_cases hm0 : m1 = 0
      · subst hm0
        clear hend HE hm hS
        go_wp2
        refine bodyPost_ret (results_cell_row2 rfl _ _ (w.heap.size + 1) 29 #[.slice A1 n1 c1, .int .u64 k, .bool br] (0, 0) _ rfl (hZ1.put3 A1 n1 c1 k br) Try.underlying29 rfl (by kernel_rfl)) rfl ?_
        exact FeedOut.mk' hK HE'.out hO hC hSt hb1 hb2 hB _ _ _
      · have hbt : br = true := hend.resolve_left hm0
        subst hbt
        clear hend HE hm hS
        go_wp2
        refine bodyPost_ret (results_cell_row2 rfl _ _ (w.heap.size + 1) 29 #[.slice A1 n1 c1, .int .u64 k, .bool true] (0, 0) _ rfl (hZ1.put3 A1 n1 c1 k true) Try.underlying29 rfl (by kernel_rfl)) rfl ?_
        exact FeedOut.mk' hK (.inr rfl) hO hC hSt hb1 hb2 hB _ _ _
    · have hm0 : 0 < m1 := by omega
      have hbf : br = false := by cases br <;> simp_all
      subst hbf
      have hmm : m ≤ 900000000 := hm (by cases hh : br0 <;> simp_all)
      have hkb := hK.1.2.1
      have hnb := open_len hK.1.1
      have hnl1 := hO.len
      obtain ⟨pb, po, rfl⟩ := hRp.someB hm0
      have hpb : pb < w.heap.size := by obtain ⟨q, o, z, e, _, _, _, hq, _⟩ := hRp.at_ hm0; injection e with e; injection e with e; omega
      have hRp1 := hRp.below hB
      have hbr' : br0 = false := by cases hh : br0 <;> simp_all
      have HBR := Lib.hid hbr'
      clear hend hm hbr hbr' hS
      by_cases hk0 : k = 0
      · subst hk0
        have hK' := Lib.hid hK
        have hfar : ∀ b' o', (some ⟨pb, po, none⟩ : Option Addr) = some ⟨b', o', none⟩ → (Value.slice A1 n1 c1).ownBlock ≠ some b' := fun b' o' e e2 => by
          have h1 := hO.lt _ e2
          injection e with e; injection e with e _; omega
        clear hK hkb
        go_wp2_with fail
        refine (take_any bb A1 n1 c1 0 false b _ m1 d1 r _ hO hb2 (by omega) hRp1 hm0 hfar).mono ?_
        rintro e w5 ⟨j, hj1, hj2, hj3, A5, n5, c5, P5, m5, d5, rfl, O5, hr5, G5, hrow⟩
        have hRn := hr5 w r hRp
        have hml5 := hRn.len
        rw [List.length_drop] at hml5
        have hblt := hO.lt
        have S5 := hS1.farG G5 (fun q e => by have := hblt q e; omega)
        have Z5 := hZ1.farG G5 (fun q e => by have := hblt q e; omega)
        have hCn : u6.ownBlock = none ∨ u6.ownBlock ≠ (Value.slice A1 n1 c1).ownBlock := by
          cases hu : u6.ownBlock with
          | none => exact .inl rfl
          | some q => exact .inr fun e => hap q hu e.symm
        have C5 := hC.grown G5 hCn
        have T5 := hSt.grown G5 hb2 (.inr fun q e => (hblt q e).1)
        have B5 := hB.grown G5 hB.size (fun q e => by have := hblt q e; omega)
        have b5 := Nat.le_trans hb2 G5.size
        have hap5 : ∀ q, u6.ownBlock = some q → (Value.slice A5 n5 c5).ownBlock ≠ some q := fun q h1 h2 => by
          rcases hrow with h | ⟨q', h, hq'⟩
          · exact hap q h1 (h.symm.trans h2)
          · have h3 := (hC.lt q h1).2
            rw [h] at h2; injection h2 with h2; omega
        have hl5 := O5.len
        rw [List.length_append, List.length_take] at hl5
        have htop := lack_top hO.bytes
        clear hr5 G5 hS1 hZ1 hO hC hSt hB hb2 hRp1 x0 x1 x2 y0 y1 y2 e0 e1 e2 f0 f1 f2 hrow hblt hCn hap hfar
        have x0 := S5.c0
        have x1 := S5.c1
        have x2 := S5.c2
        have f0 := S5.frozen 0
        have f1 := S5.frozen 1
        have f2 := S5.frozen 2
        go_wp2_with fail
        have G := put3_grown w5 w.heap.size (.slice A5 n5 c5) (.int .u64 0) (.bool false)
        have S6 := S5.put3 A5 n5 c5 0 false
        have Z6 := Z5.farG G (fun q e => by injection e with e; omega)
        have O6 := O5.grown G (O5.low (by omega))
        have C6 := C5.grown G (C5.low (by omega))
        have T6 := T5.grownLow G b5 (fun q e => by injection e with e; omega)
        have B6 := below_put3 B5 (Nat.le_refl w.heap.size) (.slice A5 n5 c5) (.int .u64 0) (.bool false)
        have b6 := Nat.le_trans b5 G.size
        generalize ((w5.setCell ⟨w.heap.size, 0, none⟩ (.slice A5 n5 c5)).setCell ⟨w.heap.size, 1, none⟩ (.int .u64 0)).setCell ⟨w.heap.size, 2, none⟩ (.bool false) = W6 at *
        clear G S5 Z5 O5 C5 T5 B5 b5 x0 x1 x2 f0 f1 f2
        have hn5 : n5 ≤ 1000000 := by omega
        have HT := Lib.hid (hK'.out.take j hj1 hj3 (by omega))
        refine (finish_any _ _ _ _ _ O6.reads hn5).mono ?_
        rintro e w7 ⟨hb7, h7⟩
        have S7 := S6.below hb7
        have Z7 := Z6.below hb7
        have O7 := O6.below hb7
        have C7 := C6.below hb7
        have T7 := T6.below (hb7.mono b6)
        have B7 := below_then B6 hb7
        have b7 := Nat.le_trans b6 hb7.size
        clear hb7 S6 Z6 O6 C6 T6 B6 b6
        rcases h7 with ⟨rfl, hsb⟩ | ⟨k', br', A8, n8, c8, x, v, rfl, hsb, hr8, hin⟩
        · have HS := Lib.hid hsb
          clear hsb
          have x0 := S7.c0
          have x1 := S7.c1
          have x2 := S7.c2
          have f0 := S7.frozen 0
          have f1 := S7.frozen 1
          have f2 := S7.frozen 2
          have hlt := S7.lt
          go_wp2
          have G := put3_grown w7 w.heap.size (.slice A5 n5 c5) (.int .u64 0) (.bool false)
          have S8 := S7.put3 A5 n5 c5 0 false
          have Z8 := Z7.farG G (fun q e => by injection e with e; omega)
          have O8 := O7.grown G (O7.low (by omega))
          have C8 := C7.grown G (C7.low (by omega))
          have T8 := T7.grownLow G b7 (fun q e => by injection e with e; omega)
          have B8 := below_put3 B7 (Nat.le_refl w.heap.size) (.slice A5 n5 c5) (.int .u64 0) (.bool false)
          have b8 := Nat.le_trans b7 G.size
          generalize ((w7.setCell ⟨w.heap.size, 0, none⟩ (.slice A5 n5 c5)).setCell ⟨w.heap.size, 1, none⟩ (.int .u64 0)).setCell ⟨w.heap.size, 2, none⟩ (.bool false) = W8 at *
          have BB : Below W8.heap.size W8 ((W8.alloc (.cells #[.slice A5 n5 c5, .int .u64 0, .bool false] 29)).alloc (.cells #[.slice none 0 0, .int .i64 0] 41)) := ((Below.refl _ _).alloc (Nat.le_refl _) _).alloc (by simp) _
          have HK := HT.out
          rw [HS.out, List.append_nil] at HK
          refine ⟨⟨b ++ r.take j, 0, false, r.drop j, C, A5, n5, c5, P5, m5, d5, R, bb, rfl, hRn, S8.below BB, Z8.below BB, O8.below BB, HK, C8.below BB, T8.below (BB.mono b8), hap5, hb1, Nat.le_trans b8 BB.size, below_then B8 BB, by omega, fun h => absurd (HBR.out.symm.trans h) (by simp)⟩, ?_⟩
          simp [lenS]; omega
        · have HS := Lib.hid hsb
          have HIN := Lib.hid hin
          have hlt := S7.lt
          have BB : Below w7.heap.size w7 (((w7.alloc (.cells #[.slice none 0 0, .int .u64 k', .bool br'] 29)).alloc (.cells #[.slice A8 n8 c8, .int .i64 v] 41)).alloc (.cells #[.slice A8 n8 c8, .int .i64 v] 41)) := (((Below.refl _ _).alloc (Nat.le_refl _) _).alloc (by simp) _).alloc (by simp; omega) _
          have N8 := (SBox.new w7 none 0 0 k' br').below (((Below.refl _ _).alloc (Nat.le_refl _) (.cells #[.slice A8 n8 c8, .int .i64 v] 41)).alloc (by simp) (.cells #[.slice A8 n8 c8, .int .i64 v] 41))
          have C8 := C7.below BB
          have L8 := RawCt.one' (w := (w7.alloc (.cells #[.slice none 0 0, .int .u64 k', .bool br'] 29)).alloc (.cells #[.slice A8 n8 c8, .int .i64 v] 41)) (h := w7.heap.size + 1 + 1) A8 n8 c8 v (by simp)
          have hRl : R.length + 1 ≤ 1000000000 := by have := T7.tells.1; omega
          have hz8 : w.heap.size + 2 ≤ (((w7.alloc (.cells #[.slice none 0 0, .int .u64 k', .bool br'] 29)).alloc (.cells #[.slice A8 n8 c8, .int .i64 v] 41)).alloc (.cells #[.slice A8 n8 c8, .int .i64 v] 41)).heap.size := by simp; omega
          have S8 := S7.below BB
          have Z8 := Z7.below BB
          have T8 := T7.below (BB.mono b7)
          have B8 := below_then B7 BB
          have hr9 := hr8.below BB
          have hu6 := C7.lt
          clear hsb hin BB S7 Z7 C7 T7 B7 hr8
          go_wp2_with (at_builtin; refine wpList_appC rfl (.tmp 44) (.tmp 46) rfl (w.heap.size + 2) u6 R rfl _ 1 1 [(A8, n8, c8, v)] rfl C8 L8 hRl hz8 ?_; intro v9 w9 C9 G9 hat9; have S9 := S8.farG G9 (fun q e => by have := hu6 q e; omega); have N9 := N8.farG G9 (fun q e => by have := hu6 q e; omega); have x0 := S9.c0; have x1 := S9.c1; have x2 := S9.c2; have f0 := S9.frozen 0; have f1 := S9.frozen 1; have f2 := S9.frozen 2; have y0 := N9.c0; have y1 := N9.c1; have y2 := N9.c2)
          have hblk : ∀ q o sp, A8 = some ⟨q, o, sp⟩ → x ≠ [] → w.heap.size + 2 ≤ q ∧ q < (((w7.alloc (.cells #[.slice none 0 0, .int .u64 k', .bool br'] 29)).alloc (.cells #[.slice A8 n8 c8, .int .i64 v] 41)).alloc (.cells #[.slice A8 n8 c8, .int .i64 v] 41)).heap.size ∧ some q ≠ u6.ownBlock := fun q o sp e _ => by
            obtain ⟨o', sp', e'⟩ := HIN.out q o sp e
            have h1 : (Value.slice A5 n5 c5).ownBlock = some q := by rw [e']; rfl
            have h2 := O7.lt q h1
            refine ⟨by omega, by simp; omega, fun e2 => hap5 q e2.symm h1⟩
          have hw8 : w7.heap.size ≤ (((w7.alloc (.cells #[.slice none 0 0, .int .u64 k', .bool br'] 29)).alloc (.cells #[.slice A8 n8 c8, .int .i64 v] 41)).alloc (.cells #[.slice A8 n8 c8, .int .i64 v] 41)).heap.size := by simp; omega
          generalize (((w7.alloc (.cells #[.slice none 0 0, .int .u64 k', .bool br'] 29)).alloc (.cells #[.slice A8 n8 c8, .int .i64 v] 41)).alloc (.cells #[.slice A8 n8 c8, .int .i64 v] 41)) = W8 at *
          have T9 := (((T8.wider (B' := W8.heap.size) (Nat.le_trans b7 hw8) (.inl rfl)).snoc (v := v) hr9 hblk).grown G9 (Nat.le_refl _) (.inl rfl)).wider (B' := w9.heap.size) (x' := v9.ownBlock) G9.size (by
            rcases hat9 with h | h
            · exact .inl h
            · exact .inr (.inr ⟨_, h, Nat.le_refl _⟩))
          have Z9 := Z8.farG G9 (fun q e => by have := hu6 q e; omega)
          have B9 := B8.grown G9 B8.size (fun q e => by have := hu6 q e; omega)
          have hs9 := G9.size
          have G := put3_grown w9 w.heap.size (.slice none 0 0) (.int .u64 k') (.bool br')
          have SX := S9.put3 none 0 0 k' br'
          have ZX := Z9.farG G (fun q e => by injection e with e; omega)
          have CX := C9.grown G (C9.low (by omega))
          have TX := T9.grownLow G (Nat.le_refl _) (fun q e => by injection e with e; omega)
          have BX := below_put3 B9 (Nat.le_refl w.heap.size) (.slice none 0 0) (.int .u64 k') (.bool br')
          have HK := HT.out
          rw [HS.out] at HK
          refine ⟨⟨[], k', br', r.drop j, C ++ [(x, v)], none, 0, 0, P5, m5, d5, _, w9.heap.size, rfl, hRn, SX, ZX, Own.nil _ _, HK, CX, TX, by (intro q _ h2; cases h2), by omega, G.size, BX, by rw [List.length_append, List.length_singleton]; omega, fun h => absurd (HBR.out.symm.trans h) (by simp)⟩, ?_⟩
          simp [lenS]; omega
      · have hk1 : 1 ≤ k := by have := hkb.1; simp only at this; omega
        have hk2 : k ≤ 18446744073709551615 := hkb.2
        have hK' := Lib.hid hK
        clear hK hkb
        go_wp2_with fail
        refine (skip_any _ _ _ k false _ _ _ r _ hRp1 hm0 hk1 hk2).mono ?_
        rintro e w5 ⟨j, hj1, hj2, hj3, P5, m5, d5, rfl, hr5, hb5⟩
        have hRn := hr5 w r hRp
        have hml5 := hRn.len
        rw [List.length_drop] at hml5
        have S5 := hS1.below hb5
        have Z5 := hZ1.below hb5
        have O5 := hO.below hb5
        have C5 := hC.below hb5
        have T5 := hSt.below (hb5.mono hb2)
        have B5 := below_then hB hb5
        have b5 : bb ≤ w5.heap.size := Nat.le_trans hb2 hb5.size
        clear hr5 hb5 hS1 hZ1 hO hC hSt hB hb2 hRp1 x0 x1 x2 y0 y1 y2 e0 e1 e2 f0 f1 f2
        have x0 := S5.c0
        have x1 := S5.c1
        have x2 := S5.c2
        have f0 := S5.frozen 0
        have f1 := S5.frozen 1
        have f2 := S5.frozen 2
        go_wp2
        have G := put3_grown w5 w.heap.size (.slice A1 n1 c1) (.int .u64 (k - j)) (.bool false)
        have S6 := S5.put3 A1 n1 c1 (k - j) false
        have Z6 := Z5.farG G (fun q e => by injection e with e; omega)
        have O6 := O5.grown G (O5.low (by omega))
        have C6 := C5.grown G (C5.low (by omega))
        have T6 := T5.grownLow G b5 (fun q e => by injection e with e; omega)
        have B6 := below_put3 B5 (Nat.le_refl w.heap.size) (.slice A1 n1 c1) (.int .u64 (k - j)) (.bool false)
        have b6 := Nat.le_trans b5 G.size
        go_roundw
        case rel => exact ⟨b, k - j, false, r.drop j, C, A1, n1, c1, P5, m5, d5, R, bb, rfl, hRn, S6, Z6, O6, hK'.out.skip j hj3 (by omega), C6, T6, hap, hb1, b6, B6, by omega, fun h => absurd (HBR.out.symm.trans h) (by simp)⟩
        case measure => (simp [lenS] <;> omega)
end Go.Proofs.Ytfihaonpifoekaa
