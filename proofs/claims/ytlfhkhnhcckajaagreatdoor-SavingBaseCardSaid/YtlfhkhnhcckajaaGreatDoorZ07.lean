/- Words laid together in one text. Conditions: none beyond those typed. -/
import Derived.Test.YtlfhkhnhcckajaaGreatDoorZ06
import Derived.Test.YtlfhkhnhcckajaaGreatDoorZ04
import Derived.Test.YtlfhkhnhcckajaaGreatDoorTm
import Derived.Deep.RegionHeld3
import Derived.Deep.CutRange
import Derived.StillTailTactics
import Derived.BigRegion
/- == on entries; SameEntries on equal lists; the specified table: Entries; Deck.Entry. Conditions: none beyond those typed. -/
namespace Go.Proofs.YtlfhkhnhcckajaaGreatDoor
open Go.ChangeShapes Go.WideShapes Go.ChangeAt Go.RowKit
set_option linter.unusedVariables false
set_option linter.unusedSimpArgs false
set_option maxRecDepth 100000

theorem fields_entry : Tryz.prog.underlying 32 = some (.struct (Tryz.prog.fieldsOf 32)) := by
  unfold Program.fieldsOf; rw [Tryz.underlying32]
theorem eqIn_entry (s s' : ByteArray) (t t' x x' : Int) (w : World) : (Op.equalIn 10000 32 (.agg #[.string s, .int .u64 t, .int .u64 x]) (.agg #[.string s', .int .u64 t', .int .u64 x'])).run Tryz.prog w = .ok (decide (((s, t, x) : En) = (s', t', x'))) w := by
  have h9 := fun w => Tryz.isAgg9 w
  have h7 := fun w => Tryz.isAgg30 w
  rw [run_equalIn_agg w 9999 _ _ _ fields_entry (by kernel_rfl)]
  unfold Program.fieldsOf
  rw [Tryz.underlying32]
  have e1 : ∀ (a b : ByteArray) (d : Nat) (w : World), (Op.equalIn (d + 1) 9 (.string a) (.string b)).run Tryz.prog w = .ok (decide (a = b)) w := fun a b d w => by
    rw [run_equalIn_string w d _ a b Tryz.underlying9, str_beq]
  simp [Op.eqFields, part, h9, h7]
  rw [e1]
  simp [Result.andThen, run_equalIn_int]
  by_cases hs : s = s'
  · by_cases ht : t = t'
    · by_cases hx : x = x' <;> simp [hs, ht, hx]
    · simp [hs, ht]
  · simp [hs]
set_option maxHeartbeats 1000000 in
theorem sameEntries_yes (A A' : Option Addr) (n c c' : Nat) (l : List En) (w : World) (h : RdG kEn w A n c l) (h' : RdG kEn w A' n c' l) :
    Calls Tryz.prog 26 #[.slice A n c, .slice A' n c'] w fun e w' => e = .returned (.bool true) ∧ Below w.heap.size w w' := by
  have hcap := h.cap
  have hmax := h.max
  have hcap' := h'.cap
  have hmax' := h'.max
  go_enter Tryz.func26, Tryz.ntmps26
  go_wp2
  go_loopw [13] (fun i wr => ∃ k j : Nat, k ≤ n ∧ i = .int .i64 k ∧ wr = w.drewN j) (fun i _ => n - (intOf i).toNat)
  case atStart => exact ⟨0, 0, Nat.zero_le _, rfl, rfl⟩
  case round =>
    obtain ⟨k, j, hk, rfl, rfl⟩ := hrel
    by_cases hlt : k < n
    · obtain ⟨b, o, p, rfl, hp, z0, z1, z2⟩ := h.atEn hlt
      obtain ⟨b', o', p', rfl, hp', y0, y1, y2⟩ := h'.atEn hlt
      rw [hp] at hp'; injection hp' with hp'; subst hp'
      have hki : (k : Int) < (n : Int) := by omega
      have hQ := eqIn_entry p.1 p.1 p.2.1 p.2.1 p.2.2 p.2.2
      rw [decide_eq_true rfl] at hQ
      clear hp
      go_wp2
      go_quiet (fail)
      go_wp2
      go_roundw
      case rel => exact ⟨k + 1, _, by omega, by go_num, rfl⟩
      case measure => (simp [intOf] <;> omega)
    · have hki : ¬ (k : Int) < (n : Int) := by omega
      go_wp2
      go_ret
      exact ⟨rfl, below_drewN (Below.refl _ _) j⟩
theorem get_own {t : TSt} (G : GoodT t) {i : Nat} {e : En} (he : t.l[i]? = some e) : t.get e.1 = (e, true) := by
  have hp : placeE t.l e.1 = some i := placeE_at he rfl fun j x hj hx hxe => by
    have hn := G.nd
    have h1 : (t.l.map Prod.fst)[j]? = some e.1 := by rw [List.getElem?_map, hx, ← hxe]; rfl
    have h2 : (t.l.map Prod.fst)[i]? = some e.1 := by rw [List.getElem?_map, he]; rfl
    obtain ⟨a, ha⟩ := List.getElem?_eq_some_iff.1 h1
    obtain ⟨b, hb⟩ := List.getElem?_eq_some_iff.1 h2
    exact List.pairwise_iff_getElem.1 hn j i a b hj (ha.trans hb.symm)
  unfold TSt.get
  rw [hp]
  show ((t.l[i]?).getD zeroE, true) = _
  rw [he]; rfl
section
variable {col : Col} {w w' : World} {k g : Nat} {t : TSt}
set_option maxHeartbeats 2000000 in
theorem rtEntries (H : RefT col k w g t) (ht : Tidy col w) : Calls Tryz.prog 27 #[.pointer (some ⟨g, 0, none⟩)] w (RowOut kEn w (sortE t.l)) := by
  have HH := Lib.hid H
  obtain ⟨A, c, x2, R, hl6, _⟩ := H.rows
  have hcap := R.cap
  have hmax := R.max
  obtain ⟨N, hN⟩ : ∃ N, t.l.length = N := ⟨_, rfl⟩
  rw [hN] at x2 R hcap hl6
  have hG := Lib.hid H.1
  clear H
  go_enter Tryz.func27, Tryz.ntmps27
  go_wp2
  go_loopw [3, 13] (fun v iv wr => ∃ i : Nat, i ≤ N ∧ iv = .int .i64 (i : Int) ∧ OwnK kEn wr v (t.l.take i) ∧ New w v ∧ Below w.heap.size w wr) (fun _ iv _ => N - (intOf iv).toNat)
  case atStart => exact ⟨0, Nat.zero_le _, rfl, OwnK.nil kEn _, fun q hq => by simp [Value.ownBlock] at hq, Below.refl _ _⟩
  case round =>
    obtain ⟨i, hi, rfl, hO, hNw, hB⟩ := hrel
    by_cases hlt : i < N
    · obtain ⟨b, o, e, rfl, he, z0, z1, z2⟩ := (R.below hB).atEn hlt
      have hiI : (i : Int) < (N : Int) := by omega
      have hbW1 : Below w.heap.size w (wr.alloc (.cells (VE e) 32)) := hB.alloc hB.size _
      have c0 : (wr.alloc (.cells (VE e) 32)).cell? ⟨wr.heap.size, 0, none⟩ = some (.string e.1) := (World.cell?_alloc_at (w := wr) _ _ _ _ rfl).trans rfl
      have hGt := rtGet (HH.out.below ht hbW1) (ht.size hbW1.size) e.1
      rw [get_own hG.out he] at hGt
      have hTk := Lib.hid (show t.l.take i ++ [e] = t.l.take (i + 1) by rw [List.take_add_one, he]; rfl)
      have hlo : (t.l.take i).length = i := by rw [List.length_take]; omega
      obtain ⟨lo, hlo2⟩ : ∃ lo, t.l.take i = lo := ⟨_, rfl⟩
      rw [hlo2] at hO hTk hlo
      obtain ⟨Ao, co, rfl, _, _⟩ := hO.form hlo
      obtain ⟨W1, hW1⟩ : ∃ W, W = wr.alloc (.cells (VE e) 32) := ⟨_, rfl⟩
      have O1 : OwnK kEn W1 (.slice Ao i co) lo := by rw [hW1]; exact hO.alloc _
      rw [← hW1] at hGt hbW1
      clear hB hO he hlo2
      go_wp2_with fail
      rw [← hW1]
      clear hW1 c0 z0 z1 z2
      refine hGt.mono ?_
      rintro e' w2 ⟨rfl, b2⟩
      clear hGt
      have O2 := O1.below b2
      have B2 := below_then hbW1 b2
      clear O1 b2 hbW1
      have B3 := B2.alloc B2.size (.cells (VE e) 32)
      have n0 : (w2.alloc (.cells (VE e) 32)).cell? ⟨w2.heap.size, 0, none⟩ = some (.string e.1) := (World.cell?_alloc_at (w := w2) _ _ _ _ rfl).trans rfl
      have n1 : (w2.alloc (.cells (VE e) 32)).cell? ⟨w2.heap.size, 1, none⟩ = some (.int .u64 e.2.1) := (World.cell?_alloc_at (w := w2) _ _ _ _ rfl).trans rfl
      have n2 : (w2.alloc (.cells (VE e) 32)).cell? ⟨w2.heap.size, 2, none⟩ = some (.int .u64 e.2.2) := (World.cell?_alloc_at (w := w2) _ _ _ _ rfl).trans rfl
      have B4 := B3.alloc B3.size (.cells (VE e) 32)
      have O4 : OwnK kEn ((w2.alloc (.cells (VE e) 32)).alloc (.cells (VE e) 32)) (.slice Ao i co) lo := (O2.alloc _).alloc _
      have R4 : RdG kEn ((w2.alloc (.cells (VE e) 32)).alloc (.cells (VE e) 32)) (some ⟨w2.heap.size + 1, 0, none⟩) 1 1 [e] := RdG.one2 kEn e rfl rfl (by simp)
      have hby : lo.length + 1 ≤ 1000000000 := by omega
      clear O2 B2 B3
      go_wp2_with (at_builtin; refine wpList_appK kEn rfl (.tmp 24) (.tmp 26) rfl _ lo rfl _ 1 1 [e] rfl O4 R4 hby ?_; intro v7 w7 O7 G7 hat7; have N7 : New w v7 := New.app hNw B4 hat7; have B7 := B4.grown G7 B4.size (fun q hq => hNw q hq); rw [hTk.out] at O7; clear O4 R4 G7 hat7 B4)
      go_roundw
      case rel => exact ⟨i + 1, by omega, by go_num, O7, N7, B7⟩
      case measure => (simp [intOf] <;> omega)
    · have hin : i = N := by omega
      have hiI : ¬ (i : Int) < (N : Int) := by omega
      rw [hin, List.take_of_length_le (by omega)] at hO
      obtain ⟨Ao, co, rfl, hR, hform⟩ := hO.form (n := N) hN
      have hS := sorted_any hR (by omega)
      clear hO hform hR R hNw
      go_wp2_with fail
      refine hS.mono ?_
      rintro e' w2 ⟨A2, n2, d2, hl2, rfl, R2, hA2, b2⟩
      have HR := Lib.hid (And.intro R2 (And.intro (fun b o sp e => Nat.le_trans hB.size (hA2 b o sp e)) (below_then hB b2)))
      clear hS R2 hA2 b2 hB
      go_wp2
      go_ret
      exact ⟨A2, n2, d2, hl2, rfl, HR.out.1, HR.out.2.1, HR.out.2.2⟩
end
end Go.Proofs.YtlfhkhnhcckajaaGreatDoor

/- The specified table in memory: Add. Conditions: none beyond those typed. -/
namespace Go.Proofs.YtlfhkhnhcckajaaGreatDoor
open Go.ChangeShapes Go.WideShapes Go.ChangeAt Go.RowKit
set_option linter.unusedVariables false
set_option linter.unusedSimpArgs false
set_option maxRecDepth 100000

section
variable {P : Nat → Prop} {col col' : Col} {w w' : World} {k g : Nat} {t : TSt}
theorem size_zero {s : ByteArray} : s.size = 0 ↔ s = ⟨#[]⟩ := by
  constructor
  · intro h
    cases s with
    | mk d =>
      have : d.size = 0 := h
      rw [Array.eq_empty_of_size_eq_zero this]
  · intro h; rw [h]; rfl
theorem RefTB.setSum {A : Option Addr} {c : Nat} (h : RefTB col k w g t A c) (ht : Tidy col w) (y : Int) :
    RefTB col k (w.setCell ⟨g, 4, none⟩ (.int .u64 y)) g { t with sum := y } A c ∧ StepC (Rng k) col w col (w.setCell ⟨g, 4, none⟩ (.int .u64 y)) := by
  have hk := h.k1
  have s1 := StepC.set (P := fun d => d = k) ht (a := ⟨g, 4, none⟩) h.box.col (.int .u64 y)
  exact ⟨⟨h.box.put 4 _, h.row.keep s1 (by omega), hk⟩, s1.mono fun c e => ⟨by omega, by omega⟩⟩
theorem RefTB.setBase {A : Option Addr} {c : Nat} (h : RefTB col k w g t A c) (ht : Tidy col w) (y : Int) :
    RefTB col k (w.setCell ⟨g, 3, none⟩ (.int .u64 y)) g { t with base := y } A c ∧ StepC (Rng k) col w col (w.setCell ⟨g, 3, none⟩ (.int .u64 y)) := by
  have hk := h.k1
  have s1 := StepC.set (P := fun d => d = k) ht (a := ⟨g, 3, none⟩) h.box.col (.int .u64 y)
  exact ⟨⟨h.box.put 3 _, h.row.keep s1 (by omega), hk⟩, s1.mono fun c e => ⟨by omega, by omega⟩⟩
theorem RefTB.grown {A A' : Option Addr} {c c' N : Nat} {e : En} (h : RefTB col k w g t A c) (ht : Tidy col w) (hN : (t.l ++ [e]).length = N) (hO : OwnK kEn w' (.slice A' N c') (t.l ++ [e])) (hg : w.grownBy w' (Value.slice A t.l.length c).ownBlock) (hv : (Value.slice A' N c').ownBlock = (Value.slice A t.l.length c).ownBlock ∨ (Value.slice A' N c').ownBlock = some w.heap.size) :
    ∃ col', RefTB col' k (w'.setCell ⟨g, 2, none⟩ (.slice A' N c')) g { t with l := t.l ++ [e] } A' c' ∧ StepC (Rng k) col w col' (w'.setCell ⟨g, 2, none⟩ (.slice A' N c')) := by
  subst hN
  have hk := h.k1
  have s1 := StepC.app (P := fun d => d = k + 1) ht hg h.row.col rfl hv hO.lt
  have b1 := h.box.keep s1 (by omega)
  have s2 := StepC.set (P := fun d => d = k) s1.tidy (a := ⟨g, 2, none⟩) b1.col (.slice A' (t.l ++ [e]).length c')
  exact ⟨_, ⟨b1.put 2 _, (OwnKc.mk' (c := k + 1) kEn hO).keep s2 (by omega), hk⟩, (s1.mono fun c e => ⟨by omega, by omega⟩).trans (s2.mono fun c e => ⟨by omega, by omega⟩)⟩
/-- Nothing but new memory between: the cell of the row, after an append that grew the row alone. -/
theorem RefTB.far {A : Option Addr} {c : Nat} {v : Value} {w' : World} (h : RefTB col k w g t A c) (ht : Tidy col w) (hg : w.grownBy w' (Value.slice A t.l.length c).ownBlock) : w'.cell? ⟨g, 2, none⟩ = some (.slice A t.l.length c) ∧ (w'.setCell ⟨g, 2, none⟩ v).cell? ⟨g, 2, none⟩ = some v := by
  have s1 := StepC.grownBy (P := fun d => d = k + 1) ht hg fun q hq => h.row.col q hq
  have b1 := h.box.keep s1 (by omega)
  exact ⟨b1.cell 2 rfl, (b1.put 2 v).cell 2 rfl⟩
set_option maxHeartbeats 4000000 in
theorem rtAddFull (H : RefT col k w g t) (ht : Tidy col w) (s : ByteArray) (x : Int) (hx : 0 ≤ x ∧ x ≤ 18446744073709551615) (c1 : s.size ≠ 0) (c2 : x ≠ 0) (hf : fitsB t.sum x = true) (hp : placeE t.l s = none) (hfull : t.l.length = t.m) :
    Calls Tryz.prog 21 #[.pointer (some ⟨g, 0, none⟩), .string s, .int .u64 x] w fun e w' => e = .returned (.int .i64 (t.addS s x).1) ∧ DidRT col k w g (t.addS s x).2 w' := by
  obtain ⟨hG, A, c, HB⟩ := H
  have hs0 := hG.sum0
  have hst := hG.top
  have hb : s.toList.isEmpty = false := ba_some (by omega)
  have hb2 : (x == 0) = false := beq_false_of_ne c2
  have hF := rfits_any t.sum x w ⟨hs0, by omega⟩ hx
  have x4 : w.cell? ⟨g, 4, none⟩ = some (.int .u64 t.sum) := HB.box.cell 4 rfl
  rw [hf] at hF
  have hfl := fits_le hf
  have hGA := hG.addS s hx.1
  have hsw : IntKind.u64.wrap (t.sum + x) = t.sum + x := IntWalk.u64_in _ ⟨by omega, by omega⟩
  obtain ⟨y, hy⟩ : ∃ y, t.sum + x = y := ⟨_, rfl⟩
  rw [hy] at hsw
  have f4 := HB.box.free 4
  obtain ⟨H1, S1⟩ := HB.setSum ht y
  have T1 := S1.tidy
  obtain ⟨n, hn⟩ : ∃ n, t.l.length = n := ⟨_, rfl⟩
  have hm := hG.m1
  have hn6 : n ≤ 64 := by omega
  have hn1 : 1 ≤ n := by omega
  have y2 : (w.setCell ⟨g, 4, none⟩ (.int .u64 y)).cell? ⟨g, 2, none⟩ = some (.slice A n c) := by rw [← hn]; exact H1.box.cell 2 rfl
  have hRow : RdG kEn (w.setCell ⟨g, 4, none⟩ (.int .u64 y)) A n c t.l := by rw [← hn]; exact H1.row.own.reads
  have hPl := place_any hRow (by omega) s
  unfold placeI at hPl
  rw [hp] at hPl
  have hM : (w.setCell ⟨g, 4, none⟩ (.int .u64 y)).cell? ⟨g, 0, none⟩ = some (.int .i64 1) := H1.box.cell 0 rfl
  have hm1 : (w.setCell ⟨g, 4, none⟩ (.int .u64 y)).cell? ⟨g, 1, none⟩ = some (.int .i64 t.m) := H1.box.cell 1 rfl
  obtain ⟨el, hiL, hminL, hil⟩ := least_spec (l := t.l) (by omega)
  rw [addS_full c1 c2 hf hp hfull hiL] at hGA ⊢
  rw [hy] at hGA ⊢
  have hnm : (n : Int) = (t.m : Int) := by omega
  have HG0 := Lib.hid hGA
  have hBd := fun e (he : e ∈ t.l) => hG.bd he
  clear hGA HB
  go_enter Tryz.func21, Tryz.ntmps21
  go_wp2_with fail
  refine hF.mono ?_
  rintro e w1 ⟨rfl, hw⟩
  subst hw
  clear hF
  go_wp2_with fail
  generalize w.setCell ⟨g, 4, none⟩ (.int .u64 y) = W1 at *
  refine hPl.mono ?_
  rintro e w2 ⟨rfl, bp⟩
  have H2 := H1.below T1 bp
  have T2 := T1.size bp.size
  have S2 := S1.trans (StepC.below T1 bp)
  obtain ⟨b, rfl, _⟩ : ∃ b, A = some ⟨b, 0, none⟩ ∧ b < w2.heap.size := by have := H2.row.own.head (by show 0 < t.l.length; omega); exact this
  have z0 : w2.cell? ⟨g, 0, none⟩ = some (.int .i64 1) := (cellB hM bp).1
  have z1 : w2.cell? ⟨g, 1, none⟩ = some (.int .i64 t.m) := (cellB hm1 bp).1
  have z2 : w2.cell? ⟨g, 2, none⟩ = some (.slice (some ⟨b, 0, none⟩) n c) := (cellB y2 bp).1
  have hR2 := hRow.below bp
  have hcap := hR2.cap
  have hmax := hR2.max
  have HH2 := Lib.hid H2
  have HS2 := Lib.hid S2
  have HT2 := Lib.hid T2
  clear hPl bp y2 hp H1 hRow T1 S1 hM hm1 H2 S2 T2 hG hfl hs0 hst x4 f4 hsw hb hb2
  go_upto_region 17 with fail
  go_region
  have b5 := (Below.refl w2.heap.size w2).drew
  have z5 := (cellB z2 b5).1
  generalize hW5 : w2.drew = W5 at *
  clear hW5 hnm z1
  go_wp2
  go_loopw [9, 87] (fun lv iv wr => ∃ i : Nat, i ≤ n ∧ iv = .int .i64 (i : Int) ∧ lv = .int .i64 (leastTo t.l i : Int) ∧ Below w2.heap.size w2 wr) (fun _ iv _ => n - (intOf iv).toNat)
  case atStart => exact ⟨0, Nat.zero_le _, rfl, rfl, b5⟩
  case round =>
    obtain ⟨i, hi, rfl, rfl, hB⟩ := hrel
    by_cases hlt : i < n
    · have hiI : (i : Int) < (n : Int) := by omega
      have hstep : leastTo t.l (i + 1) = if ctAt t.l i < ctAt t.l (leastTo t.l i) then i else leastTo t.l i := rfl
      obtain ⟨j, hj⟩ : ∃ j, leastTo t.l i = j := ⟨_, rfl⟩
      have hjn : j < n := by
        rcases Nat.eq_zero_or_pos i with h0 | h0
        · subst h0; rw [← hj]; show 0 < n; omega
        · have := (leastTo_spec (l := t.l) i h0 (by omega)).1; omega
      have hjI : (j : Int) < (n : Int) := by omega
      rw [hj] at hstep ⊢
      have hRr := hR2.below hB
      obtain ⟨b1, o1, ei, hb1, hei, q0, q1, q2⟩ := hRr.atEn (j := i) hlt
      injection hb1 with hb1; injection hb1 with h1 h2; subst h1 h2
      obtain ⟨b1, o1, ej, hb1, hej, r0, r1, r2⟩ := hRr.atEn (j := j) hjn
      injection hb1 with hb1; injection hb1 with h1 h2; subst h1 h2
      obtain ⟨i0, i1, i2, i3⟩ := hBd _ (List.mem_of_getElem? hei)
      obtain ⟨j0, j1, j2, j3⟩ := hBd _ (List.mem_of_getElem? hej)
      have hci := ctAt_at hei
      have hcj := ctAt_at hej
      rw [hci, hcj] at hstep
      have wi : IntKind.u64.wrap (ei.2.1 + ei.2.2) = ctE ei := IntWalk.u64_in _ ⟨by omega, by omega⟩
      have wj : IntKind.u64.wrap (ej.2.1 + ej.2.2) = ctE ej := IntWalk.u64_in _ ⟨by omega, by omega⟩
      have B8 := hB.alloc hB.size (.cells (#[.string ei.1, .int .u64 ei.2.1, .int .u64 ei.2.2]) 32)
      have br : Below wr.heap.size wr (wr.alloc (.cells (#[.string ei.1, .int .u64 ei.2.1, .int .u64 ei.2.2]) 32)) := (Below.refl _ _).alloc (Nat.le_refl _) _
      have zr : wr.cell? ⟨g, 2, none⟩ = some (.slice (some ⟨b, 0, none⟩) n c) := (cellB z2 hB).1
      simp only [Nat.zero_add] at q0 q1 q2 r0 r1 r2
      have v1 : (wr.alloc (.cells (#[.string ei.1, .int .u64 ei.2.1, .int .u64 ei.2.2]) 32)).cell? ⟨wr.heap.size, 1, none⟩ = some (.int .u64 ei.2.1) := (World.cell?_alloc_at (w := wr) _ _ _ _ rfl).trans rfl
      have v2 : (wr.alloc (.cells (#[.string ei.1, .int .u64 ei.2.1, .int .u64 ei.2.2]) 32)).cell? ⟨wr.heap.size, 2, none⟩ = some (.int .u64 ei.2.2) := (World.cell?_alloc_at (w := wr) _ _ _ _ rfl).trans rfl
      have s1 := (cellB r1 br).1
      have s2 := (cellB r2 br).1
      have zr8 := (cellB zr br).1
      obtain ⟨G8, hG8⟩ : ∃ G8, wr.heap.size = G8 := ⟨_, rfl⟩
      rw [hG8] at v1 v2
      go_upto_region 22 with fail
      generalize hW8 : wr.alloc (.cells #[.string ei.1, .int .u64 ei.2.1, .int .u64 ei.2.2] 32) = W8 at *
      have HB8 := Lib.hid B8
      have HB9 := Lib.hid B8.drew
      have Hst := Lib.hid hstep
      clear hW8 hG8 B8 br hB hstep hci hcj hei hej zr q0 q1 q2 r0 r1 r2 hRr i3 j3 z5 b5
      go_region
      by_cases hc : ctE ei < ctE ej
      · have hl9 := Hst.out
        rw [if_pos hc] at hl9
        have Hl := Lib.hid hl9
        clear hl9 Hst
        go_wp2
        go_roundw
        case rel => exact ⟨i + 1, by omega, by go_num, by rw [Hl.out], by first | exact HB9.out | exact HB8.out⟩
        case measure => (simp [intOf] <;> omega)
      · have hl9 := Hst.out
        rw [if_neg hc] at hl9
        have Hl := Lib.hid hl9
        clear hl9 Hst
        go_wp2
        go_roundw
        case rel => exact ⟨i + 1, by omega, by go_num, by rw [Hl.out], by first | exact HB9.out | exact HB8.out⟩
        case measure => (simp [intOf] <;> omega)
    · obtain rfl : i = n := by omega
      obtain ⟨j, hj⟩ : ∃ j, leastTo t.l i = j := ⟨_, rfl⟩
      have hjE : leastE t.l = j := by unfold leastE; rw [hn]; exact hj
      rw [hj]
      have hjn : j < i := by have := hil; rw [hjE, hn] at this; exact this
      have HJ := Lib.hid hjE
      rw [hjE] at hiL HG0
      clear hj hil hjE
      have hjI : (j : Int) < (i : Int) := by omega
      have hnl : ¬ (i : Int) < (i : Int) := by omega
      have hRr := hR2.below hB
      obtain ⟨b1, o1, ej, hb1, hej, r0, r1, r2⟩ := hRr.atEn (j := j) hjn
      injection hb1 with hb1; injection hb1 with h1 h2; subst h1 h2
      rw [hiL] at hej; injection hej with hej; subst hej
      obtain ⟨j0, j1, j2, j3⟩ := hBd _ (List.mem_of_getElem? hiL)
      have wj : IntKind.u64.wrap (el.2.1 + el.2.2) = ctE el := IntWalk.u64_in _ ⟨by omega, by omega⟩
      have zr : wr.cell? ⟨g, 2, none⟩ = some (.slice (some ⟨b, 0, none⟩) i c) := (cellB z2 hB).1
      have hBox := (HH2.out.below HT2.out hB).box
      have f3 := hBox.free 3
      have x3 : wr.cell? ⟨g, 3, none⟩ = some (.int .u64 t.base) := hBox.cell 3 rfl
      simp only [Nat.zero_add] at r0 r1 r2
      have Hr0 := HH2.out.below HT2.out hB
      have Tr := HT2.out.size hB.size
      have Sr := HS2.out.trans (StepC.below (P := Rng k) HT2.out hB)
      have HBr := Lib.hid Hr0
      have HSr := Lib.hid Sr
      clear hBox hRr z0 z2 z5 b5 hB HH2 HS2 Hr0 Sr HT2 hBd hminL
      go_upto_region 25 with fail
      go_still_tail 20, (by kernel_rfl)
      change wpList _ _ _ _ _ (World.drew _)
      go_upto_region 26 with fail
      obtain ⟨H3, S3⟩ := HBr.out.setBase Tr (ctE el)
      have T3 := S3.tidy
      have bd := (Below.refl (wr.setCell ⟨g, 3, none⟩ (.int .u64 (ctE el))).heap.size (wr.setCell ⟨g, 3, none⟩ (.int .u64 (ctE el)))).drew
      have H6 := H3.below T3 bd
      have T6 := T3.size bd.size
      have S6 := (HSr.out.trans S3).trans (StepC.below (P := Rng k) T3 bd)
      clear H3 S3 T3 bd HBr HSr Tr f3 x3 zr r0 r1 r2 hR2
      generalize (wr.setCell ⟨g, 3, none⟩ (.int .u64 (ctE el))).drew = W6 at *
      have z6 : W6.cell? ⟨g, 2, none⟩ = some (.slice (some ⟨b, 0, none⟩) i c) := by rw [← hn]; exact H6.box.cell 2 rfl
      have R6 : RdG kEn W6 (some ⟨b, 0, none⟩) i c t.l := by rw [← hn]; exact H6.row.own.reads
      have hWo := without_any R6 (by omega) (i := j) hjn
      have HH6 := Lib.hid H6
      have HS6 := Lib.hid S6
      have HT6 := Lib.hid T6
      clear H6 S6 T6 R6
      go_wp2_with fail
      refine hWo.mono ?_
      rintro e w7 ⟨A2, c2, rfl, O2, N2, bw⟩
      have z7 := (cellB z6 bw).1
      have f7 := (HH6.out.below HT6.out bw).box.free 2
      have hlw : (withoutE t.l j).length = i - 1 := by have := (without_at hiL).1; omega
      obtain ⟨col7, M7, S7⟩ := HH6.out.newRow HT6.out bw hlw O2 N2
      have HM7 := Lib.hid M7
      have HS7 := Lib.hid (HS6.out.trans S7)
      have HT7 := Lib.hid S7.tidy
      clear hWo M7 S7 HH6 HS6 HT6 O2 N2 bw z6
      go_upto_region 27 with fail
      obtain ⟨t5, ht5⟩ : ∃ t5 : TSt, t5 = { t with sum := y, base := ctE el, l := withoutE t.l j } := ⟨_, rfl⟩
      have hB5 := HM7.out
      rw [← ht5] at hB5
      obtain ⟨A5, c5, HB⟩ : ∃ A5 c5, Hid (RefTB col7 k (w7.setCell ⟨g, 2, none⟩ (.slice A2 (i - 1) c2)) g t5 A5 c5) := ⟨_, _, Lib.hid hB5⟩
      have T1 := HT7.out
      have HG5 : GoodT { t5 with l := t5.l ++ [(s, x, t5.base)] } := by rw [ht5]; exact HG0.out
      have HE := Lib.hid (show { t5 with l := t5.l ++ [(s, x, t5.base)] } = ({ m := t.m, l := withoutE t.l (leastE t.l) ++ [(s, x, ctE el)], base := ctE el, sum := y } : TSt) by rw [ht5, HJ.out])
      have hly : (t5.l ++ [(s, x, t5.base)]).length = i := by rw [ht5]; show (withoutE t.l j ++ [(s, x, ctE el)]).length = _; rw [List.length_append, hlw]; show i - 1 + 1 = i; omega
      have hby : t5.l.length + 1 ≤ 1000000000 := by rw [ht5]; show (withoutE t.l j).length + 1 ≤ _; omega
      clear ht5 hB5 HG0 HM7 HT7 z7 f7 hiL hlw
      have HG := Lib.hid HG5
      have HS := HS7
      clear HG5 HS7
      generalize (w7.setCell ⟨g, 2, none⟩ (.slice A2 (i - 1) c2)) = W5 at *
      have hSP : ∀ W, Below W5.heap.size W5 W → (fun w' => w'.cell? ⟨g, 2, none⟩ = some (.slice A5 t5.l.length c5) ∧ w'.cell? ⟨g, 3, none⟩ = some (.int .u64 t5.base)) W := fun W B => ⟨(HB.out.below T1 B).box.cell 2 rfl, (HB.out.below T1 B).box.cell 3 rfl⟩
      refine wp_region_noPanic ?_
      refine wp_region_late (fun w' => w'.cell? ⟨g, 2, none⟩ = some (.slice A5 t5.l.length c5) ∧ w'.cell? ⟨g, 3, none⟩ = some (.int .u64 t5.base)) (fun j => [0, 1, 2, 3, 5, 6, 7, 8, 9, 14, 15, 16].contains j) (by kernel_rfl) ?_
      intro u0 hu0
      have B0 : Below W5.heap.size W5 u0 := by rw [← hu0]; exact bdM _
      have hS : (fun w' => w'.cell? ⟨g, 2, none⟩ = some (.slice A5 t5.l.length c5) ∧ w'.cell? ⟨g, 3, none⟩ = some (.int .u64 t5.base)) u0 := hSP _ B0
      clear hu0
      refine wpAnyL_takeY 0 _ (.pointer (some ⟨g, 0, none⟩)) rfl (by kernel_rfl) (by kernel_rfl) (by kernel_rfl) (by kernel_rfl) (fun _ _ _ h => h) (Or.inl ⟨by rfl, ?_⟩) ?_
      · intro w'; go_simp
      simp only [Act.put, List.setIfInBounds_toArray, List.set_cons_zero, List.set_cons_succ]
      refine wpAnyL_takeY 1 _ (.pointer (some ⟨g, 0, none⟩)) rfl (by kernel_rfl) (by kernel_rfl) (by kernel_rfl) (by kernel_rfl) (fun _ _ _ h => h) (Or.inl ⟨by rfl, ?_⟩) ?_
      · intro w'; go_simp
      simp only [Act.put, List.setIfInBounds_toArray, List.set_cons_zero, List.set_cons_succ]
      refine wpAnyL_takeY 2 _ (.pointer (some ⟨g, 0, none⟩)) rfl (by kernel_rfl) (by kernel_rfl) (by kernel_rfl) (by kernel_rfl) (fun _ _ _ h => h) (Or.inl ⟨by rfl, ?_⟩) ?_
      · intro w'; go_simp
      simp only [Act.put, List.setIfInBounds_toArray, List.set_cons_zero, List.set_cons_succ]
      refine wpAnyL_takeY 3 _ (.pointer (some ⟨g, 2, none⟩)) rfl (by kernel_rfl) (by kernel_rfl) (by kernel_rfl) (by kernel_rfl) (fun _ _ _ h => h) (Or.inl ⟨by rfl, ?_⟩) ?_
      · intro w'; go_simp
      simp only [Act.put, List.setIfInBounds_toArray, List.set_cons_zero, List.set_cons_succ]
      refine wpAnyL_takeY 5 _ (.string s) rfl (by kernel_rfl) (by kernel_rfl) (by kernel_rfl) (by kernel_rfl) (fun _ _ _ h => h) (Or.inl ⟨by rfl, ?_⟩) ?_
      · intro w'; go_simp
      simp only [Act.put, List.setIfInBounds_toArray, List.set_cons_zero, List.set_cons_succ]
      refine wpAnyL_takeY 6 _ (.int .u64 x) rfl (by kernel_rfl) (by kernel_rfl) (by kernel_rfl) (by kernel_rfl) (fun _ _ _ h => h) (Or.inl ⟨by rfl, ?_⟩) ?_
      · intro w'; go_simp
      simp only [Act.put, List.setIfInBounds_toArray, List.set_cons_zero, List.set_cons_succ]
      refine wpAnyL_takeY 7 _ (.pointer (some ⟨g, 0, none⟩)) rfl (by kernel_rfl) (by kernel_rfl) (by kernel_rfl) (by kernel_rfl) (fun _ _ _ h => h) (Or.inl ⟨by rfl, ?_⟩) ?_
      · intro w'; go_simp
      simp only [Act.put, List.setIfInBounds_toArray, List.set_cons_zero, List.set_cons_succ]
      refine wpAnyL_takeY 8 _ (.pointer (some ⟨g, 0, none⟩)) rfl (by kernel_rfl) (by kernel_rfl) (by kernel_rfl) (by kernel_rfl) (fun _ _ _ h => h) (Or.inl ⟨by rfl, ?_⟩) ?_
      · intro w'; go_simp
      simp only [Act.put, List.setIfInBounds_toArray, List.set_cons_zero, List.set_cons_succ]
      refine wpAnyL_takeY 9 _ (.pointer (some ⟨g, 3, none⟩)) rfl (by kernel_rfl) (by kernel_rfl) (by kernel_rfl) (by kernel_rfl) (fun _ _ _ h => h) (Or.inl ⟨by rfl, ?_⟩) ?_
      · intro w'; go_simp
      simp only [Act.put, List.setIfInBounds_toArray, List.set_cons_zero, List.set_cons_succ]
      refine wpAnyL_take 4 _ (.slice A5 t5.l.length c5) rfl (by kernel_rfl) (by kernel_rfl) (by kernel_rfl) (by kernel_rfl) (fun _ _ _ h => h) (Or.inl ⟨by rfl, ?_⟩) hS ?_
      · rintro w' ⟨hS0, hS1⟩; go_simp
      simp only [Act.put, List.setIfInBounds_toArray, List.set_cons_zero, List.set_cons_succ]
      refine wpAnyL_take 10 _ (.int .u64 t5.base) rfl (by kernel_rfl) (by kernel_rfl) (by kernel_rfl) (by kernel_rfl) (fun _ _ _ h => h) (Or.inl ⟨by rfl, ?_⟩) hS ?_
      · rintro w' ⟨hS0, hS1⟩; go_simp
      simp only [Act.put, List.setIfInBounds_toArray, List.set_cons_zero, List.set_cons_succ]
      refine wpAnyL_take 11 _ (.agg #[.string s, .int .u64 x, .int .u64 t5.base]) rfl (by kernel_rfl) (by kernel_rfl) (by kernel_rfl) (by kernel_rfl) (fun _ _ _ h => h) (Or.inl ⟨by rfl, ?_⟩) hS ?_
      · rintro w' ⟨hS0, hS1⟩; go_simp
      simp only [Act.put, List.setIfInBounds_toArray, List.set_cons_zero, List.set_cons_succ]
      clear hS
      refine wpAnyL_all [12] (by kernel_rfl) (by simp) ?_
      refine lateCons ?_ lateNil
      refine wpOpL_step _ rfl (fun K' hK => ?_)
      refine litThen kEn (s, x, t5.base) (cs := #[.string s, .int .u64 x, .int .u64 t5.base]) rfl (t := 32) rfl B0 ?_
      intro u1 pL e1 e2 B1 L k1
      go_simp
      try rw [e1]
      try rw [e2]
      clear k1
      refine hK.out _ _ (fun _ => hSP _ B1) ?_
      clear hK K' B0
      try simp only [Act.put, List.setIfInBounds_toArray, List.set_cons_zero, List.set_cons_succ]
      refine wpAnyL_all [13] (by kernel_rfl) (by simp) ?_
      refine lateCons ?_ lateNil
      refine wpOpL_step _ rfl (fun K' hK => ?_)
      have H7 := HB.out.below T1 B1
      have T7 := T1.size B1.size
      have HH7 := Lib.hid H7
      refine step_appG kEn rfl (.tmp 150) (.tmp 158) rfl _ t5.l rfl _ 1 1 [(s, x, t5.base)] rfl H7.row.own L hby ?_
      intro v2 u2 O2 G2 hat2
      obtain ⟨A2, c2, rfl, _⟩ := O2.form hly
      have s7 := StepC.grownBy (P := fun d => d = k + 1) T7 G2 fun q hq => HH7.out.row.col q hq
      have b7 := HH7.out.box.keep s7 (by omega)
      have c0 := b7.cell 2 rfl
      have f0 := b7.free 2
      obtain ⟨col8, M8, S8⟩ := HH7.out.grown T7 hly O2 G2 hat2
      refine hK.out _ _ (fun _ => ⟨b7.cell 2 rfl, b7.cell 3 rfl⟩) ?_
      clear hK K' L e1 e2 H7 O2 G2 hat2 s7 b7
      try simp only [Act.put, List.setIfInBounds_toArray, List.set_cons_zero, List.set_cons_succ]
      refine wpAnyL_takeY 14 _ (.pointer (some ⟨g, 0, none⟩)) rfl (by kernel_rfl) (by kernel_rfl) (by kernel_rfl) (by kernel_rfl) (fun _ _ _ h => h) (Or.inl ⟨by rfl, ?_⟩) ?_
      · intro w'; go_simp
      simp only [Act.put, List.setIfInBounds_toArray, List.set_cons_zero, List.set_cons_succ]
      refine wpAnyL_takeY 15 _ (.pointer (some ⟨g, 2, none⟩)) rfl (by kernel_rfl) (by kernel_rfl) (by kernel_rfl) (by kernel_rfl) (fun _ _ _ h => h) (Or.inl ⟨by rfl, ?_⟩) ?_
      · intro w'; go_simp
      simp only [Act.put, List.setIfInBounds_toArray, List.set_cons_zero, List.set_cons_succ]
      refine wpAnyL_all [16] (by kernel_rfl) (by simp) ?_
      refine lateCons ?_ lateNil
      refine wpOpL_step _ rfl (fun K' hK => ?_)
      go_simp
      refine hK.out _ _ (fun h => absurd h (by decide)) ?_
      clear hK K'
      try simp only [Act.put, List.setIfInBounds_toArray, List.set_cons_zero, List.set_cons_succ]
      refine wpAnyL_done (by kernel_rfl) ?_ _
      dsimp only [NoPanic]
      have HD := Lib.hid (show DidRT col k w g _ _ from ⟨_, ⟨HG.out, _, _, M8⟩, (HS.out.trans (StepC.below (P := Rng k) T1 B1)).trans S8⟩)
      clear M8 S8 HH7 T7 B1 f0 c0
      go_wp2
      go_ret
      have hD := HD.out
      rw [HE.out] at hD
      exact ⟨rfl, hD⟩
end
end Go.Proofs.YtlfhkhnhcckajaaGreatDoor
