/- Words laid together in one text. Conditions: none beyond those typed. -/
import Derived.Test.YtlfhkhnhcckajaaGreatDoorZ17
import Derived.Test.YtlfhkhnhcckajaaGreatDoorZ16
import Derived.Test.YtlfhkhnhcckajaaGreatDoorZ03
import Derived.Test.YtlfhkhnhcckajaaGreatDoorZ13
import Derived.Test.YtlfhkhnhcckajaaGreatDoorZ09
/- The program's tables: slices.Index, insert, remove, removeLeast. Conditions: none beyond those typed. -/
namespace Go.Proofs.YtlfhkhnhcckajaaGreatDoor
open Go.ChangeShapes Go.WideShapes Go.ChangeAt Go.RowKit
set_option linter.unusedVariables false
set_option linter.unusedSimpArgs false
set_option maxRecDepth 100000

theorem fields_el : Tryz.prog.underlying 95 = some (.struct (Tryz.prog.fieldsOf 95)) := by
  unfold Program.fieldsOf; rw [Tryz.underlying95]
theorem eqIn_el (s s' : ByteArray) (t t' : Int) (w : World) : (Op.equalIn 10000 95 (.agg #[.string s, .int .u64 t]) (.agg #[.string s', .int .u64 t'])).run Tryz.prog w = .ok (decide (((s, t) : El) = (s', t'))) w := by
  have h9 := fun w => Tryz.isAgg9 w
  have h7 := fun w => Tryz.isAgg30 w
  rw [run_equalIn_agg w 9999 _ _ _ fields_el (by kernel_rfl)]
  unfold Program.fieldsOf
  rw [Tryz.underlying95]
  have e1 : ∀ (a b : ByteArray) (d : Nat) (w : World), (Op.equalIn (d + 1) 9 (.string a) (.string b)).run Tryz.prog w = .ok (decide (a = b)) w := fun a b d w => by
    rw [run_equalIn_string w d _ a b Tryz.underlying9, str_beq]
  simp [Op.eqFields, part, h9, h7]
  rw [e1]
  simp [Result.andThen, run_equalIn_int]
  by_cases hs : s = s'
  · by_cases ht : t = t' <;> simp [hs, ht]
  · simp [hs]
set_option maxHeartbeats 1000000 in
theorem soIndex_any {w : World} {bE n c : Nat} {E : List El} (R : OwnK kSx w (.slice (some ⟨bE, 0, none⟩) n c) E) (hn : n ≤ 64) (hz : ∃ i, i < n ∧ E[i]? = some zeroEl) :
    Calls Tryz.prog 57 #[.slice (some ⟨bE, 0, none⟩) n c, .agg #[.string ⟨#[]⟩, .int .u64 0]] w fun e w' => ∃ i : Nat, e = .returned (.int .i64 (i : Int)) ∧ E[i]? = some zeroEl ∧ Below w.heap.size w w' := by
  have hcap := R.reads.cap
  have hmax := R.reads.max
  have hlen := R.len
  have b1 : Below w.heap.size w (w.alloc (.cells #[.string ⟨#[]⟩, .int .u64 0] 95)) := (Below.refl _ _).alloc (Nat.le_refl _) _
  have R1 := R.below b1
  have v0 : (w.alloc (.cells #[.string ⟨#[]⟩, .int .u64 0] 95)).cell? ⟨w.heap.size, 0, none⟩ = some (.string ⟨#[]⟩) := (World.cell?_alloc_at (w := w) _ _ _ _ rfl).trans rfl
  have v1 : (w.alloc (.cells #[.string ⟨#[]⟩, .int .u64 0] 95)).cell? ⟨w.heap.size, 1, none⟩ = some (.int .u64 0) := (World.cell?_alloc_at (w := w) _ _ _ _ rfl).trans rfl
  have HV := Lib.hid (And.intro v0 v1)
  have HB := Lib.hid b1
  have HZ := Lib.hid hz
  clear R v0 v1 b1 hz
  go_enter Tryz.func57, Tryz.ntmps57
  go_wp2
  generalize w.alloc (.cells #[.string ⟨#[]⟩, .int .u64 0] 95) = W1 at *
  go_loopw [8] (fun iv wr => ∃ i j : Nat, i ≤ n ∧ iv = .int .i64 (i : Int) ∧ (∀ q, q < i → E[q]? ≠ some zeroEl) ∧ wr = W1.drewN j) (fun iv _ => n - (intOf iv).toNat)
  case atStart => exact ⟨0, 0, Nat.zero_le _, rfl, fun q hq => absurd hq (Nat.not_lt_zero _), rfl⟩
  case round =>
    obtain ⟨i, j, hi, rfl, hno, rfl⟩ := hrel
    by_cases hlt : i < n
    · obtain ⟨⟨k, sl⟩, hr⟩ : ∃ r, E[i]? = some r := ⟨_, List.getElem?_eq_getElem (by omega)⟩
      have y0 : W1.cell? ⟨bE, i * 2, none⟩ = some (.string k) := R1.cell hr (i := 0) rfl
      have y1 : W1.cell? ⟨bE, i * 2 + 1, none⟩ = some (.int .u64 sl) := R1.cell hr (i := 1) rfl
      have v0 := HV.out.1
      have v1 := HV.out.2
      have hiI : (i : Int) < (n : Int) := by omega
      have hQ := eqIn_el ⟨#[]⟩ k 0 sl
      by_cases he : ((⟨#[]⟩, 0) : El) = (k, sl)
      · rw [decide_eq_true he] at hQ
        have hE : E[i]? = some zeroEl := by rw [hr, ← he]; rfl
        have HE := Lib.hid hE
        clear hr hno R1 HZ he hE
        go_wp2
        go_quiet (fail)
        go_wp2
        go_ret
        exact ⟨i, rfl, HE.out, below_drewN (below_drewN HB.out _) _⟩
      · rw [decide_eq_false he] at hQ
        have HN := Lib.hid (show ∀ q, q < i + 1 → E[q]? ≠ some zeroEl from fun q hq => by
          rcases Nat.lt_or_ge q i with h | h
          · exact hno q h
          · have : q = i := by omega
            subst this
            rw [hr]
            intro h2
            injection h2 with h2
            exact he h2.symm)
        clear hr hno HZ he
        go_wp2
        go_quiet (fail)
        go_wp2
        go_roundw
        case rel => exact ⟨i + 1, _, by omega, by go_num, HN.out, rfl⟩
        case measure => (simp [intOf] <;> omega)
    · obtain ⟨q, hq, hqz⟩ := HZ.out
      exact absurd hqz (hno q (by omega))
section
variable {P : Nat → Prop} {c2 c3 : Col} {w w' : World} {g gr gm bE n c i : Nat} {b s : Int} {m m' : CSt Int} {M M' : MSt Int} {E : List El} {X : List Xn} {x : Xn} {k : ByteArray} {z : Int} {e : En}
/-- The cells that insert loads. -/
def InsC (g gr gm bE n c G : Nat) (e : En) (W : World) : Prop := W.cell? ⟨g, 0, none⟩ = some (.pointer (some ⟨gr, 0, none⟩)) ∧ W.cell? ⟨g, 1, none⟩ = some (.pointer (some ⟨gm, 0, none⟩)) ∧ W.cell? ⟨g, 2, none⟩ = some (.slice (some ⟨bE, 0, none⟩) n c) ∧ W.cell? ⟨G, 0, none⟩ = some (.string e.1) ∧ W.cell? ⟨G, 1, none⟩ = some (.int .u64 e.2.1) ∧ W.cell? ⟨G, 2, none⟩ = some (.int .u64 e.2.2)
theorem SoB.insC {G d : Nat} (H : SoB c2 w g gr gm bE n c b s m M E) (X : BoxC c2 w G d (VE e) 32) : InsC g gr gm bE n c G e w := ⟨H.c0, H.c1, H.cE, X.cell 0 rfl, X.cell 1 rfl, X.cell 2 rfl⟩
theorem elBlock (h : OwnKc kSx c2 w 17 (.slice (some ⟨bE, 0, none⟩) n c) E) : c2 bE = 17 := h.col.of
set_option maxHeartbeats 4000000 in
theorem soInsert_any (H : SoB c2 w g gr gm bE n c b s m M E) (L : LkO n X m M E) (ht : Tidy c2 w) (hX : X.length < n) (hno : fndX X e.1 = none) (hk : 0 < e.1.size ∧ e.1.size ≤ 281474976710656) (h1 : 0 ≤ e.2.1) (h2 : 0 ≤ e.2.2) (h3 : ctE e ≤ 9223372036854775808) :
    Calls Tryz.prog 35 #[.pointer (some ⟨g, 0, none⟩), .agg (VE e)] w fun e' w' => e' = .returned (.tuple #[]) ∧ ∃ i : Nat, DidSo c2 w g n b s (X ++ [(i, e)]) w' := by
  have hn64 := L.n1.2
  have b1 : Below w.heap.size w (w.alloc (.cells (VE e) 32)) := (Below.refl _ _).alloc (Nat.le_refl _) _
  have X1 : BoxC c2 (w.alloc (.cells (VE e) 32)) w.heap.size 0 (VE e) 32 := ⟨heap_alloc_new w _, ht _ (Nat.le_refl _)⟩
  have H1 := H.below ht b1
  have t1 := ht.size b1.size
  obtain ⟨hcp, hcm⟩ := H.cap
  have yE := H1.cE
  have hIx := soIndex_any H1.row.own hn64 (by
    obtain ⟨i, hi, hni⟩ := L.room hX
    exact ⟨i, hi, L.no i hi hni⟩)
  obtain ⟨W1, hW1⟩ : ∃ W1, W1 = w.alloc (.cells (VE e) 32) := ⟨_, rfl⟩
  obtain ⟨G, hG⟩ : ∃ G, w.heap.size = G := ⟨_, rfl⟩
  have S1 : StepC (fun c => 16 ≤ c) c2 w c2 (w.alloc (.cells (VE e) 32)) := StepC.below ht b1
  have yE0 := yE
  rw [← hW1] at H1 X1 t1 hIx yE S1
  rw [hG] at X1
  have HL := Lib.hid L
  have HK := Lib.hid (And.intro hX (And.intro hno (And.intro hk (And.intro h1 (And.intro h2 h3)))))
  obtain ⟨C, hC⟩ : ∃ C, ctE e = C := ⟨_, rfl⟩
  have hsum : IntKind.u64.wrap (e.2.1 + e.2.2) = C := by rw [← hC]; unfold ctE at h3 ⊢; exact IntWalk.u64_in _ ⟨by omega, by omega⟩
  have hC0 : 0 ≤ C ∧ C ≤ 9223372036854775808 := by rw [← hC]; unfold ctE at h3 ⊢; omega
  have HC := Lib.hid hC
  have HH1 := Lib.hid (And.intro H1 (And.intro X1 (And.intro t1 S1)))
  clear H L hX hno h1 h2 h3 b1 hC H1 X1 t1 S1
  go_enter Tryz.func35, Tryz.ntmps35
  go_wp2_with fail
  rw [← hW1]
  clear hW1 yE0
  refine hIx.mono ?_
  rintro e' w2 ⟨i, rfl, hEi, b2⟩
  obtain ⟨H1, X1, t1, S1⟩ := HH1.out
  have H2 := H1.below t1 b2
  have t2 := t1.size b2.size
  have S2 := S1.trans (StepC.below t1 b2)
  have X2 := X1.keep (P := fun _ => False) (StepC.below t1 b2) (fun h => h)
  obtain ⟨hin, hni⟩ := HL.out.zero hEi
  obtain ⟨hX, hno, hk, h1, h2, h3⟩ := HK.out
  obtain ⟨r1, r2, L2⟩ := HL.out.ins hX hno hEi hk h1 h2 h3
  rw [HC.out] at r1 L2
  have hj : J64 (i : Int) := by unfold J64; omega
  have hiI : (i : Int) < (n : Int) := by omega
  have HL2 := Lib.hid L2
  have bd := (Below.refl w2.heap.size w2).drew
  have H2d := H2.below t2 bd
  have S2d := S2.trans (StepC.below t2 bd)
  have X2d := X2.keep (P := fun _ => False) (StepC.below t2 bd) (fun h => h)
  have i2 := H2.insC X2
  have i2d := H2d.insC X2d
  have hPu := puti_any H2d.mp t2 e.1 (i : Int) hk.2
  have HX2 := Lib.hid X2d
  have HH2 := Lib.hid H2d
  have HS2 := Lib.hid (And.intro t2 S2d)
  have HE := Lib.hid (And.intro hEi (And.intro hin hni))
  have h16 : ¬ (16 ≤ 0) := by omega
  clear HH1 H1 X1 t1 S1 hIx H2 S2 X2 bd H2d S2d X2d hX hno h1 h2 h3 r1 r2 L2 yE HK b2 hEi hni t2
  go_wp2_with fail
  go_region_held3 (fun W => W.cell? ⟨g, 1, none⟩ = some (.pointer (some ⟨gm, 0, none⟩)) ∧ W.cell? ⟨G, 0, none⟩ = some (.string e.1)) (first | exact ⟨i2d.2.1, i2d.2.2.2.1⟩ | exact ⟨i3.2.1, i3.2.2.2.1⟩) ((go_at_call 58; refine hPu.mono ?_; rintro e' w3 ⟨rfl, hd⟩; obtain ⟨c3, H3, s3⟩ := HH2.out.mpDid hd; have X3 := HX2.out.keep s3 h16; have i3 := H3.insC X3; clear hd))
  have HX3 := Lib.hid X3
  have t3 := s3.tidy
  have bd := (Below.refl w3.heap.size w3).drew
  have H3d := H3.below t3 bd
  have X3d := X3.keep (P := fun _ => False) (StepC.below t3 bd) (fun h => h)
  have i3d := H3d.insC X3d
  have hIn := H3d.rk.insP t3 hj (x := C) ⟨by omega, by omega⟩
  have HX3 := Lib.hid X3d
  have HH3 := Lib.hid H3d
  have HS3 := Lib.hid (And.intro t3 ((HS2.out.2.trans s3).trans (StepC.below t3 bd)))
  clear HX2 HH2 HS2 i2 i2d hPu i3 X3 H3 s3 t3 bd H3d X3d
  go_wp2_with fail
  go_region_held3 (fun W => W.cell? ⟨g, 0, none⟩ = some (.pointer (some ⟨gr, 0, none⟩)) ∧ W.cell? ⟨G, 1, none⟩ = some (.int .u64 e.2.1) ∧ W.cell? ⟨G, 2, none⟩ = some (.int .u64 e.2.2)) (first | exact ⟨i3d.1, i3d.2.2.2.2.1, i3d.2.2.2.2.2⟩ | exact ⟨i4.1, i4.2.2.2.2.1, i4.2.2.2.2.2⟩) ((go_at_call 59; refine hIn.mono ?_; rintro e' w4 ⟨rfl, hd⟩; obtain ⟨c4, H4, s4⟩ := HH3.out.rkDid hd; have X4 := HX3.out.keep s4 h16; have i4 := H4.insC X4; clear hd))
  have t4 := s4.tidy
  have bd := (Below.refl w4.heap.size w4).drew
  have H4d := H4.below t4 bd
  have X4d := X4.keep (P := fun _ => False) (StepC.below t4 bd) (fun h => h)
  have i4d := H4d.insC X4d
  have HX4 := Lib.hid X4d
  have HH4 := Lib.hid H4d
  have HS4 := Lib.hid (And.intro t4 ((HS3.out.2.trans s4).trans (StepC.below t4 bd)))
  have hCl := clone_str e.1 w4.drew hk.2
  have hi0 : ¬ (i : Int) < 0 := by omega
  clear HX3 HH3 HS3 i3d hIn i4 X4 H4 s4 t4 bd H4d X4d hj hsum
  go_wp2_with fail
  go_region_held3 (fun W => W.cell? ⟨g, 2, none⟩ = some (.slice (some ⟨bE, 0, none⟩) n c) ∧ W.cell? ⟨G, 0, none⟩ = some (.string e.1) ∧ W.cell? ⟨G, 2, none⟩ = some (.int .u64 e.2.2)) (first | exact ⟨i4d.2.2.1, i4d.2.2.2.1, i4d.2.2.2.2.2⟩ | exact ⟨i7.2.2.1, i7.2.2.2.1, i7.2.2.2.2.2⟩ | exact ⟨i6.2.2.1, i6.2.2.2.1, i6.2.2.2.2.2⟩) ((go_at_call 60; refine hCl.mono ?_; rintro e' w6 ⟨rfl, b6⟩; have t6 := HS4.out.1.size b6.size; have H6 := HH4.out.below HS4.out.1 b6; have X6 := HX4.out.keep (P := fun _ => False) (StepC.below HS4.out.1 b6) (fun h => h); have i6 := H6.insC X6; obtain ⟨y0, y1, fz⟩ := H6.at_ HE.out.1; obtain ⟨H7, s7⟩ := H6.put t6 HE.out.1 e.1 e.2.2; have X7 := X6.keep s7 (show ¬ (0 = 17) by omega); have i7 := H7.insC X7))
  have HD := Lib.hid (show ∃ q : Nat, DidSo c2 w g n b s (X ++ [(q, e)]) ((w6.setCell ⟨bE, i * 2, none⟩ (.string e.1)).setCell ⟨bE, i * 2 + 1, none⟩ (.int .u64 e.2.2)) from
    ⟨i, c4, ⟨_, _, _, _, _, _, _, H7, HL2.out⟩, (HS4.out.2.trans (StepC.below HS4.out.1 b6)).trans (s7.mono (fun c hc => by omega))⟩)
  clear HX4 HH4 HS4 i4d hCl b6 t6 H6 X6 i6 y0 y1 fz H7 s7 X7 i7 HL2 HE HL
  go_wp2
  go_end0
  exact ⟨rfl, HD.out⟩
theorem delX_no (h : fndX X k = none) : delX X k = X := List.filter_eq_self.2 fun x hx => by simpa using fndX_none h x hx
/-- A result's box of colour 2 is written behind the object's steps. -/
theorem SoB.boxed {W : World} {G : Nat} {a : En} (H : SoB c3 W g gr gm bE n c b s m M E) (S : StepC (fun c => 16 ≤ c) c2 w c3 W) (X3 : BoxC c3 W G 2 (VE a) 32) (h : w.heap.size ≤ G) (e : En) :
    SoB c3 (((W.setCell ⟨G, 0, none⟩ (.string e.1)).setCell ⟨G, 1, none⟩ (.int .u64 e.2.1)).setCell ⟨G, 2, none⟩ (.int .u64 e.2.2)) g gr gm bE n c b s m M E ∧ StepC (fun c => 16 ≤ c) c2 w c3 (((W.setCell ⟨G, 0, none⟩ (.string e.1)).setCell ⟨G, 1, none⟩ (.int .u64 e.2.1)).setCell ⟨G, 2, none⟩ (.int .u64 e.2.2)) ∧ (((W.setCell ⟨G, 0, none⟩ (.string e.1)).setCell ⟨G, 1, none⟩ (.int .u64 e.2.1)).setCell ⟨G, 2, none⟩ (.int .u64 e.2.2)).heap[G]? = some (.cells (VE e) 32 (0, 0)) ∧
      W.cell? ⟨G, 0, none⟩ = some (.string a.1) ∧ W.cell? ⟨G, 1, none⟩ = some (.int .u64 a.2.1) ∧ W.cell? ⟨G, 2, none⟩ = some (.int .u64 a.2.2) ∧ W.frozen? ⟨G, 0, none⟩ = false ∧ W.frozen? ⟨G, 1, none⟩ = false ∧ W.frozen? ⟨G, 2, none⟩ = false := by
  have u1 := StepC.set (P := fun d => d = 2) (a := ⟨G, 0, none⟩) S.tidy X3.col (.string e.1)
  have u2 := StepC.set (P := fun d => d = 2) (a := ⟨G, 1, none⟩) u1.tidy X3.col (.int .u64 e.2.1)
  have u3 := StepC.set (P := fun d => d = 2) (a := ⟨G, 2, none⟩) u2.tidy X3.col (.int .u64 e.2.2)
  have g1 := StepC.inNew (a := ⟨G, 0, none⟩) S h (.string e.1)
  have g2 := StepC.inNew (a := ⟨G, 1, none⟩) g1 h (.int .u64 e.2.1)
  have g3 := StepC.inNew (a := ⟨G, 2, none⟩) g2 h (.int .u64 e.2.2)
  exact ⟨H.keep ((u1.trans u2).trans u3) (fun c hc e => by omega) (by omega), g3, (vbox_en X3 e).heap, X3.cell 0 rfl, X3.cell 1 rfl, X3.cell 2 rfl, X3.free 0, X3.free 1, X3.free 2⟩
set_option maxHeartbeats 4000000 in
theorem soRemove_any (H : SoB c2 w g gr gm bE n c b s m M E) (L : LkO n X m M E) (ht : Tidy c2 w) (hk : k.size ≤ 281474976710656) :
    Calls Tryz.prog 32 #[.pointer (some ⟨g, 0, none⟩), .string k] w fun e w' => e = .returned (.tuple #[.agg (VE (getX X k).1), .bool (getX X k).2]) ∧ DidSo c2 w g n b s (delX X k) w' := by
  have s1 := StepC.new ht (.cells #[.string ⟨#[]⟩, .int .u64 0, .int .u64 0] 32) 2 (fun _ => False)
  have H1 := H.keep s1 (fun _ _ h => h) (fun h => h)
  have S1 := s1.mono (P' := fun c => 16 ≤ c) (fun c hc => hc.elim)
  have X1 : BoxC (dye c2 (some w.heap.size) 2) (w.alloc (.cells #[.string ⟨#[]⟩, .int .u64 0, .int .u64 0] 32)) w.heap.size 2 (VE zeroE) 32 := ⟨heap_alloc_new w _, dye_of⟩
  have hC := deli_any H1.mp s1.tidy k hk
  have y1 := H1.c1
  have y1r := y1
  obtain ⟨cA, hcA⟩ : ∃ cA, cA = dye c2 (some w.heap.size) 2 := ⟨_, rfl⟩
  rw [← hcA] at hC H1 X1 S1
  obtain ⟨W1, hW1⟩ : ∃ W1, W1 = w.alloc (.cells #[.string ⟨#[]⟩, .int .u64 0, .int .u64 0] 32) := ⟨_, rfl⟩
  obtain ⟨G, hG⟩ : ∃ G, w.heap.size = G := ⟨_, rfl⟩
  rw [← hW1] at hC H1 X1 S1
  rw [hG] at X1
  have hGW : w.heap.size ≤ G := by omega
  have h16 : ¬ (16 ≤ 2) := by omega
  clear H y1 s1 hcA
  cases hf : fndX X k with
  | none =>
    rw [get_miss L hf] at hC
    rw [show getX X k = (zeroE, false) by unfold getX; rw [hf], delX_no hf]
    have hdn : M.del k = M := del_not (L.miss hf)
    rw [hdn] at hC
    have HL := Lib.hid L
    clear L hf hdn
    go_enter Tryz.func32, Tryz.ntmps32
    go_wp2_with fail
    rw [← hW1]
    clear hW1 y1r
    refine hC.mono ?_
    rintro e w2 ⟨rfl, hd⟩
    obtain ⟨c3, H3, s3⟩ := H1.mpDid hd
    have X2 := X1.keep s3 h16
    obtain ⟨H4, S4, hX, z0, z1, z2, f0, f1, f2⟩ := H3.boxed (S1.trans s3) X2 hGW zeroE
    have z0' : w2.cell? ⟨G, 0, none⟩ = some (.string ⟨#[]⟩) := z0
    have z1' : w2.cell? ⟨G, 1, none⟩ = some (.int .u64 0) := z1
    have z2' : w2.cell? ⟨G, 2, none⟩ = some (.int .u64 0) := z2
    have HX := Lib.hid hX
    have HD := Lib.hid (show DidSo c2 w g n b s X _ from ⟨c3, ⟨_, _, _, _, _, _, _, H4, HL.out⟩, S4⟩)
    clear X1 X2 hC hGW H1 hG H3 s3 S4 S1 hd HL H4 hX z0 z1 z2
    go_wp2
    refine bodyPost_ret (results_cell_row2 rfl _ _ G _ _ (0, 0) _ rfl HX.out Tryz.underlying32 rfl (by kernel_rfl)) rfl ?_
    exact ⟨rfl, HD.out⟩
  | some x =>
    rw [get_yes L hf] at hC
    rw [show getX X k = (x.2, true) by unfold getX; rw [hf]]
    obtain ⟨hx, -⟩ := fndX_some hf
    obtain ⟨L2, -⟩ := L.rem hf
    have hE := L.yes x hx
    have hj : J64 (x.1 : Int) := by have := L.lt x hx; have := L.n1; unfold J64; omega
    have hlI : (x.1 : Int) < (n : Int) := by have := L.lt x hx; omega
    have HL2 := Lib.hid L2
    have HL := Lib.hid (And.intro L hx)
    clear L hf L2 hx
    go_enter Tryz.func32, Tryz.ntmps32
    go_wp2_with fail
    rw [← hW1]
    clear hW1 y1r
    refine hC.mono ?_
    rintro e w2 ⟨rfl, hd⟩
    obtain ⟨c3, H3, s3⟩ := H1.mpDid hd
    have X3 := X1.keep s3 h16
    have S3 := S1.trans s3
    have hEn := soEntry_any H3 HL.out.1 s3.tidy HL.out.2
    have t3 := s3.tidy
    clear hC H1 X1 S1 hd HL s3
    go_wp2_with fail
    refine hEn.mono ?_
    rintro e w4 ⟨rfl, b4⟩
    have b5 : Below w2.heap.size w2 (w4.alloc (.cells (VE x.2) 32)) := b4.alloc b4.size _
    have s5 : StepC (fun _ => False) c3 w2 c3 (w4.alloc (.cells (VE x.2) 32)) := StepC.below t3 b5
    have H5 := H3.keep s5 (fun _ _ h => h) (fun h => h)
    have X5 := X3.keep s5 (fun h => h)
    have Y5 : BoxC c3 (w4.alloc (.cells (VE x.2) 32)) w4.heap.size 0 (VE x.2) 32 := ⟨heap_alloc_new w4 _, t3 _ b4.size⟩
    have S5 := S3.trans (s5.mono (fun c hc => hc.elim))
    have y0 := H5.c0
    have y0r := y0
    have hRm := H5.rk.remP s5.tidy hj
    obtain ⟨W5, hW5⟩ : ∃ W, W = w4.alloc (.cells (VE x.2) 32) := ⟨_, rfl⟩
    obtain ⟨G5, hG5⟩ : ∃ G, w4.heap.size = G := ⟨_, rfl⟩
    rw [← hW5] at H5 X5 Y5 S5 y0 hRm
    rw [hG5] at Y5
    clear hEn H3 X3 S3 b4 b5 s5 t3
    go_wp2_with fail
    rw [← hW5]
    clear hW5 y0r y0 hG5
    refine hRm.mono ?_
    rintro e w6 ⟨rfl, hd⟩
    obtain ⟨c6, H6, s6⟩ := H5.rkDid hd
    have X6 := X5.keep s6 h16
    have Y6 := Y5.keep s6 (by omega)
    have S6 := S5.trans s6
    have yE := H6.cE
    obtain ⟨hcp, hcm⟩ := H6.cap
    obtain ⟨e0', e1', fz⟩ := H6.at_ hE
    have e0 : w6.cell? ⟨bE, x.1 * 2, none⟩ = some (.string x.2.1) := e0'
    have e1 : w6.cell? ⟨bE, x.1 * 2 + 1, none⟩ = some (.int .u64 x.2.2.2) := e1'
    clear e0' e1'
    have fz0 := fz (x.1 * 2)
    have fz1 := fz (x.1 * 2 + 1)
    obtain ⟨H7, s7⟩ := H6.put s6.tidy hE ⟨#[]⟩ 0
    have X7 := X6.keep s7 (by omega)
    have Y7 := Y6.keep s7 (by omega)
    have S7 := S6.trans (s7.mono (P' := fun c => 16 ≤ c) (fun c hc => by omega))
    have q0 : ((w6.setCell ⟨bE, x.1 * 2, none⟩ (.string ⟨#[]⟩)).setCell ⟨bE, x.1 * 2 + 1, none⟩ (.int .u64 0)).cell? ⟨G5, 0, none⟩ = some (.string x.2.1) := Y7.cell 0 rfl
    have q1 : ((w6.setCell ⟨bE, x.1 * 2, none⟩ (.string ⟨#[]⟩)).setCell ⟨bE, x.1 * 2 + 1, none⟩ (.int .u64 0)).cell? ⟨G5, 1, none⟩ = some (.int .u64 x.2.2.1) := Y7.cell 1 rfl
    have q2 : ((w6.setCell ⟨bE, x.1 * 2, none⟩ (.string ⟨#[]⟩)).setCell ⟨bE, x.1 * 2 + 1, none⟩ (.int .u64 0)).cell? ⟨G5, 2, none⟩ = some (.int .u64 x.2.2.2) := Y7.cell 2 rfl
    obtain ⟨H8, S8, hX, z0, z1, z2, f0, f1, f2⟩ := H7.boxed S7 X7 hGW x.2
    have z0' : ((w6.setCell ⟨bE, x.1 * 2, none⟩ (.string ⟨#[]⟩)).setCell ⟨bE, x.1 * 2 + 1, none⟩ (.int .u64 0)).cell? ⟨G, 0, none⟩ = some (.string ⟨#[]⟩) := z0
    have z1' : ((w6.setCell ⟨bE, x.1 * 2, none⟩ (.string ⟨#[]⟩)).setCell ⟨bE, x.1 * 2 + 1, none⟩ (.int .u64 0)).cell? ⟨G, 1, none⟩ = some (.int .u64 0) := z1
    have z2' : ((w6.setCell ⟨bE, x.1 * 2, none⟩ (.string ⟨#[]⟩)).setCell ⟨bE, x.1 * 2 + 1, none⟩ (.int .u64 0)).cell? ⟨G, 2, none⟩ = some (.int .u64 0) := z2
    have HX := Lib.hid hX
    have HD := Lib.hid (show DidSo c2 w g n b s (delX X k) _ from ⟨c6, ⟨_, _, _, _, _, _, _, H8, HL2.out⟩, S8⟩)
    clear hRm H5 X5 Y5 S5 hd H6 X6 Y6 S6 s6 fz H7 s7 X7 Y7 S7 H8 S8 hX z0 z1 z2 HL2 hE
    go_wp2
    refine bodyPost_ret (results_cell_row2 rfl _ _ G _ _ (0, 0) _ rfl HX.out Tryz.underlying32 rfl (by kernel_rfl)) rfl ?_
    exact ⟨rfl, HD.out⟩
set_option maxHeartbeats 2000000 in
theorem soLeast_any (H : SoB c2 w g gr gm bE n c b s m M E) (L : LkO n X m M E) (ht : Tidy c2 w) (h0 : 0 < X.length) :
    Calls Tryz.prog 39 #[.pointer (some ⟨g, 0, none⟩)] w fun e w' => ∃ x, X[leastE (X.map Prod.snd)]? = some x ∧ e = .returned (.int .u64 (ctE x.2)) ∧ DidSo c2 w g n b s (delX X x.2.1) w' := by
  obtain ⟨x, hx, hle⟩ := L.least h0
  have hm := List.mem_of_getElem? hx
  have hC := H.rk.leastP ht
  rw [hle] at hC
  have y0 := H.c0
  have hE := L.yes x hm
  have hlI : (x.1 : Int) < (n : Int) := by have := L.lt x hm; omega
  obtain ⟨hcp, hcm⟩ := H.cap
  have hsz := (L.sz x hm).2
  have HL := Lib.hid L
  have HX := Lib.hid hx
  clear L hle hm hx
  go_enter Tryz.func39, Tryz.ntmps39
  go_wp2_with fail
  refine hC.mono ?_
  rintro e w2 ⟨rfl, b2⟩
  have H2 := H.below ht b2
  have t2 := ht.size b2.size
  have yE := H2.cE
  obtain ⟨e0', e1', fz⟩ := H2.at_ hE
  have e0 : w2.cell? ⟨bE, x.1 * 2, none⟩ = some (.string x.2.1) := e0'
  have hR := soRemove_any H2 HL.out t2 hsz
  have S2 := Lib.hid (StepC.below (P := fun c => 16 ≤ c) ht b2)
  clear hC y0 H H2 b2 e0' e1' fz hE
  go_wp2_with fail
  refine hR.mono ?_
  rintro e w3 ⟨rfl, c3, hS, s3⟩
  have HD := Lib.hid (show DidSo c2 w g n b s (delX X x.2.1) w3 from ⟨c3, hS, S2.out.trans s3⟩)
  clear hR hS s3 S2 HL
  go_wp2
  go_ret
  exact ⟨x, HX.out, rfl, HD.out⟩
end
end Go.Proofs.YtlfhkhnhcckajaaGreatDoor

/- The program's tables: words, empty, New. Conditions: none beyond those typed. -/
namespace Go.Proofs.YtlfhkhnhcckajaaGreatDoor
open Go.ChangeShapes Go.WideShapes Go.ChangeAt Go.RowKit
set_option linter.unusedVariables false
set_option linter.unusedSimpArgs false
set_option maxRecDepth 100000

section
variable {P : Nat → Prop} {c2 c3 : Col} {w w' : World} {n : Nat}
theorem OwnK.bound {T : List Int} {v : Int} {i : Nat} (h : ∀ z ∈ T, 0 ≤ z ∧ z ≤ 18446744073709551615) (hv : 0 ≤ v ∧ v ≤ 18446744073709551615) : ∀ z ∈ T.set i v, 0 ≤ z ∧ z ≤ 18446744073709551615 := fun z hz => by
  rcases List.mem_or_eq_of_mem_set hz with h1 | h1
  · exact h z h1
  · rw [h1]; exact hv
set_option maxHeartbeats 1000000 in
theorem soWords_any (w : World) : Calls Tryz.prog 51 #[] w fun e w' => ∃ T, e = .returned (.slice (some ⟨w.heap.size, 0, none⟩) 16 16) ∧ RdU w' (some ⟨w.heap.size, 0, none⟩) 16 16 T ∧ Below w.heap.size w w' := by
  obtain ⟨CS, hmk, hOw⟩ := make_any kU (n := 16) (by omega) (z := 0) rfl
  have hmk' : ∀ W : World, (Instr.makeSlice 86 (.int .i64 16) (.int .i64 16)).run Tryz.prog W = .ok (.slice (some ⟨W.heap.size, 0, none⟩) 16 16) (W.alloc (.cells CS 30)) := hmk
  have O1 := hOw w
  have b1 : Below w.heap.size w (w.alloc (.cells CS 30)) := (Below.refl _ _).alloc (Nat.le_refl _) _
  have hz : ∀ z ∈ List.replicate 16 (0 : Int), 0 ≤ z ∧ z ≤ 18446744073709551615 := fun z hz => by rw [(List.mem_replicate.1 hz).2]; omega
  have HS := Lib.hid (And.intro O1 (And.intro hz b1))
  clear O1 b1 hz hOw hmk
  go_enter Tryz.func51, Tryz.ntmps51
  go_wp2
  generalize List.replicate 16 (0 : Int) = T0 at *
  go_loopw [6] (fun iv wr => ∃ (i : Nat) (T : List Int), i ≤ 16 ∧ iv = .int .i64 (i : Int) ∧ OwnK kU wr (.slice (some ⟨w.heap.size, 0, none⟩) 16 16) T ∧ (∀ z ∈ T, 0 ≤ z ∧ z ≤ 18446744073709551615) ∧ Below w.heap.size w wr) (fun iv _ => 16 - (intOf iv).toNat)
  case atStart => exact ⟨0, T0, Nat.zero_le _, rfl, HS.out.1, HS.out.2.1, HS.out.2.2⟩
  case round =>
    clear HS hmk'
    obtain ⟨i, T, hi, rfl, hO, hT, hB⟩ := hrel
    by_cases hlt : i < 16
    · have hlen := hO.len
      obtain ⟨a, ha⟩ : ∃ a, T[i]? = some a := ⟨_, List.getElem?_eq_getElem (by omega)⟩
      have y0' := hO.cell ha (i := 0) (u := .int .u64 a) rfl
      have y0 : wr.cell? ⟨w.heap.size, i, none⟩ = some (.int .u64 a) := by simpa [show kU.k = 1 from rfl] using y0'
      have fz := hO.free i
      have hiI : (i : Int) < 16 := by omega
      have hw1 : IntKind.i64.wrap ((i : Int) + 1) = (i : Int) + 1 := by rw [IntKind.wrap_i64]; omega
      have hw2 : IntKind.u64.wrap ((i : Int) + 1) = (i : Int) + 1 := IntWalk.u64_in _ ⟨by omega, by omega⟩
      obtain ⟨v, hv⟩ : ∃ v, IntKind.u64.wrap (((i : Int) + 1) * 11400714819323198485) = v := ⟨_, rfl⟩
      have hvb : 0 ≤ v ∧ v ≤ 18446744073709551615 := by rw [← hv, IntKind.wrap_u64]; omega
      have hst := hO.store (j := i) (i := 0) (a := a) (a' := v) (u := .int .u64 v) ha (by show 0 < 1; omega) rfl
      have hst' : OwnK kU (wr.setCell ⟨w.heap.size, i, none⟩ (.int .u64 v)) (.slice (some ⟨w.heap.size, 0, none⟩) 16 16) (T.set i v) := by simpa [show kU.k = 1 from rfl] using hst
      have HN := Lib.hid (And.intro hst' (And.intro (OwnK.bound (i := i) hT hvb) (hB.setCell (p := ⟨w.heap.size, i, none⟩) (Nat.le_refl _) (.int .u64 v))))
      clear hst hst' hO hT hB ha y0' hlen hvb
      go_wp2
      go_roundw
      case rel => exact ⟨i + 1, _, by omega, by go_num, HN.out.1, HN.out.2.1, HN.out.2.2⟩
      case measure => (simp [intOf] <;> omega)
    · have hi16 : i = 16 := by omega
      subst hi16
      have HE := Lib.hid (And.intro (RdU.ofK hO.reads hT) hB)
      clear hO hT hB
      go_wp2
      go_ret
      exact ⟨T, rfl, HE.out.1, HE.out.2⟩
/-- A box of colour 2 with three cells is written behind steps. -/
theorem box3 {W : World} {G : Nat} {t : TypeId} {x y z : Value} (S : StepC (fun c => 16 ≤ c) c2 w c3 W) (X : BoxC c3 W G 2 #[x, y, z] t) (h : w.heap.size ≤ G) (a b c : Value) :
    StepC (fun d => d = 2) c3 W c3 (((W.setCell ⟨G, 0, none⟩ a).setCell ⟨G, 1, none⟩ b).setCell ⟨G, 2, none⟩ c) ∧ StepC (fun c => 16 ≤ c) c2 w c3 (((W.setCell ⟨G, 0, none⟩ a).setCell ⟨G, 1, none⟩ b).setCell ⟨G, 2, none⟩ c) ∧ (((W.setCell ⟨G, 0, none⟩ a).setCell ⟨G, 1, none⟩ b).setCell ⟨G, 2, none⟩ c).heap[G]? = some (.cells #[a, b, c] t (0, 0)) ∧
      W.cell? ⟨G, 0, none⟩ = some x ∧ W.cell? ⟨G, 1, none⟩ = some y ∧ W.cell? ⟨G, 2, none⟩ = some z ∧ W.frozen? ⟨G, 0, none⟩ = false ∧ W.frozen? ⟨G, 1, none⟩ = false ∧ W.frozen? ⟨G, 2, none⟩ = false := by
  have u1 := StepC.set (P := fun d => d = 2) (a := ⟨G, 0, none⟩) S.tidy X.col a
  have u2 := StepC.set (P := fun d => d = 2) (a := ⟨G, 1, none⟩) u1.tidy X.col b
  have u3 := StepC.set (P := fun d => d = 2) (a := ⟨G, 2, none⟩) u2.tidy X.col c
  have g1 := StepC.inNew (a := ⟨G, 0, none⟩) S h a
  have g2 := StepC.inNew (a := ⟨G, 1, none⟩) g1 h b
  have g3 := StepC.inNew (a := ⟨G, 2, none⟩) g2 h c
  exact ⟨(u1.trans u2).trans u3, g3, (((X.put 0 a).put 1 b).put 2 c).heap, X.cell 0 rfl, X.cell 1 rfl, X.cell 2 rfl, X.free 0, X.free 1, X.free 2⟩
/-- An order without entries. -/
def NewO (c2 : Col) (w : World) (n : Nat) (e : Ending) (w' : World) : Prop := ∃ gr gm bE c3, e = .returned (.agg #[.pointer (some ⟨gr, 0, none⟩), .pointer (some ⟨gm, 0, none⟩), .slice (some ⟨bE, 0, none⟩) n n]) ∧
  OwnKc kSx c3 w' 17 (.slice (some ⟨bE, 0, none⟩) n n) (List.replicate n zeroEl) ∧ PRr c3 32 w' gr (newC Int n) ∧ PMi c3 48 w' gm (newM Int n) ∧ StepC (fun c => 16 ≤ c) c2 w c3 w'
set_option maxHeartbeats 4000000 in
theorem soEmpty_any (ht : Tidy c2 w) (hT : TbC c2 w) (hn : 1 ≤ n ∧ n ≤ 64) : Calls Tryz.prog 30 #[.int .i64 (n : Int)] w (NewO c2 w n) := by
  have s1 := StepC.new ht (.cells #[.pointer none, .pointer none, .slice none 0 0] 63) 2 (fun _ => False)
  have S1 := s1.mono (P' := fun c => 16 ≤ c) (fun c hc => hc.elim)
  have T1 := hT.keep s1 (fun h => h)
  have X1 : BoxC (dye c2 (some w.heap.size) 2) (w.alloc (.cells #[.pointer none, .pointer none, .slice none 0 0] 63)) w.heap.size 2 #[.pointer none, .pointer none, .slice none 0 0] 63 := ⟨heap_alloc_new w _, dye_of⟩
  have hC := rnew_any (k := 32) s1.tidy T1 (by omega) (n : Int) (by unfold J64; omega)
  obtain ⟨cA, hcA⟩ : ∃ cA, cA = dye c2 (some w.heap.size) 2 := ⟨_, rfl⟩
  obtain ⟨W1, hW1⟩ : ∃ W1, W1 = w.alloc (.cells #[.pointer none, .pointer none, .slice none 0 0] 63) := ⟨_, rfl⟩
  obtain ⟨G, hG⟩ : ∃ G, w.heap.size = G := ⟨_, rfl⟩
  have hGW : w.heap.size ≤ G := by omega
  rw [← hcA, ← hW1] at hC X1 S1
  rw [hG] at X1
  have h16 : ¬ Rng 32 2 := by unfold Rng; omega
  have h48 : ¬ Rng 48 2 := by unfold Rng; omega
  obtain ⟨CS, hmk, hOw⟩ := make_any kSx (n := n) (by omega) (z := zeroEl) rfl
  have hmk' : ∀ W : World, (Instr.makeSlice 61 (.int .i64 (n : Int)) (.int .i64 (n : Int))).run Tryz.prog W = .ok (.slice (some ⟨W.heap.size, 0, none⟩) n n) (W.alloc (.cells CS 95)) := hmk
  have HO := Lib.hid hOw
  have hE1 : ¬ rnkE (n : Int) = 1 := by unfold rnkE; rw [if_neg (by omega)]; decide
  have hE2 : mapE (n : Int) 16 = 0 := by unfold mapE; rw [if_neg (by omega)]; decide
  clear s1 T1 hcA hmk hOw
  go_enter Tryz.func30, Tryz.ntmps30
  go_wp2_with fail
  rw [← hW1]
  clear hW1
  refine hC.mono ?_
  rintro e w2 (⟨_, gr, rfl, c3, R3, s3⟩ | ⟨h0, _⟩)
  rotate_left
  · exact absurd h0 hE1
  rw [Int.toNat_natCast] at R3
  have X3 := X1.keep s3 h16
  have S3 := S1.trans (s3.mono (fun c hc => by have := hc.1; omega))
  have t3 := s3.tidy
  have hWd := soWords_any w2
  clear hC X1 S1 s3
  go_wp2_with fail
  refine hWd.mono ?_
  rintro e w4 ⟨T, rfl, hR, b4⟩
  have s4 : StepC (fun _ => False) c3 w2 c3 w4 := StepC.below t3 b4
  have X4 := X3.keep s4 (fun h => h)
  have S4 := S3.trans (s4.mono (fun c hc => hc.elim))
  have R4 := R3.keep s4 (fun _ _ h => h) (fun h => h)
  have hU : RdU0 c3 w4 (some ⟨w2.heap.size, 0, none⟩) 16 16 T := ⟨hR, fun _ b o sp e => by injection e with e; injection e with e1; rw [← e1]; exact t3 _ (Nat.le_refl _)⟩
  have hIn := newi_any (k := 48) s4.tidy (by omega) hU (n : Int) 0 (by omega) (by omega)
  have t4 := s4.tidy
  clear hWd X3 S3 R3 t3 b4 s4 hR hU
  go_wp2_with fail
  refine hIn.mono ?_
  rintro e w5 (⟨_, gm, rfl, c5, M5, s5⟩ | ⟨h0, _⟩)
  rotate_left
  · exact absurd hE2 h0
  rw [Int.toNat_natCast] at M5
  have X5 := X4.keep s5 h48
  have S5 := S4.trans (s5.mono (fun c hc => by have := hc.1; omega))
  have R5 := R4.keep s5 (rngs_no (by omega)) (rng0 (by omega))
  have s6 := StepC.new s5.tidy (.cells CS 95) 17 (fun _ => False)
  have X6 := X5.keep s6 (fun h => h)
  have S6 := S5.trans (s6.mono (P' := fun c => 16 ≤ c) (fun c hc => hc.elim))
  have R6 := R5.keep s6 (fun _ _ h => h) (fun h => h)
  have M6 := M5.keep s6 (fun _ _ h => h) (fun h => h)
  have O6 : OwnKc kSx (dye c5 (some w5.heap.size) 17) (w5.alloc (.cells CS 95)) 17 (.slice (some ⟨w5.heap.size, 0, none⟩) n n) (List.replicate n zeroEl) := ⟨HO.out w5, HasCol.dye (.slice (some ⟨w5.heap.size, 0, none⟩) n n) 17⟩
  obtain ⟨u7, S7, hX, z0, z1, z2, f0, f1, f2⟩ := box3 S6 X6 hGW (.pointer (some ⟨gr, 0, none⟩)) (.pointer (some ⟨gm, 0, none⟩)) (.slice (some ⟨w5.heap.size, 0, none⟩) n n)
  have HX := Lib.hid hX
  have HD := Lib.hid (show NewO c2 w n _ _ from ⟨gr, gm, w5.heap.size, _, rfl, O6.keep u7 (by omega), R6.keep u7 (fun c hc e => by have := hc.1; omega) (by omega), M6.keep u7 (fun c hc e => by have := hc.1; omega) (by omega), S7⟩)
  clear hIn X4 S4 R4 t4 X5 S5 R5 M5 s5 s6 X6 S6 R6 M6 O6 u7 S7 hX HO
  go_wp2
  refine bodyPost_ret (results_cell_row rfl _ _ G _ _ (0, 0) _ rfl HX.out Tryz.underlying63 rfl (by kernel_rfl)) rfl ?_
  exact HD.out
end
end Go.Proofs.YtlfhkhnhcckajaaGreatDoor
