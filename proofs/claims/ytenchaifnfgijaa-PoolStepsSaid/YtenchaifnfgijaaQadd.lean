/- The program's pool in memory: add, Intern, New. Conditions: none beyond those typed. -/
import Derived.Test.YtenchaifnfgijaaQrel
import Derived.Test.YtenchaifnfgijaaShelfc
import Derived.Deep.CutRange
namespace Go.Proofs.Ytenchaifnfgijaa
open Go.ChangeShapes Go.WideShapes Go.ChangeAt Go.RowKit
set_option linter.unusedVariables false
set_option linter.unusedSimpArgs false
set_option maxRecDepth 100000

section
variable {P : Nat → Prop} {col col' : Col} {w w' : World} {k ka g ga b : Nat} {q : PSt} {x : ASt} {D : DataW Unit} {vN vF : Value} {PA : Rep} {s : ByteArray}
theorem clone_str (s : ByteArray) (w : World) (hlim : s.size ≤ 281474976710656) : Calls Try.prog 43 #[.string s] w fun e w' => e = .returned (.string s) ∧ Below w.heap.size w w' := by
  go_enter Try.func43, Try.ntmps43
  go_wp2_with fail
  refine (Try.stringslite_Clone s w hlim).mono ?_
  rintro e w1 ⟨rfl, hb⟩
  go_wp2
  go_ret
  exact ⟨rfl, hb⟩
/-- The least free number is taken. -/
theorem pqTake (H : PqX col k w g ga q.n b D vN vF (nodesQ q.e) (freedQ q.e)) (ht : Tidy col w) (hG : GoodQ q) :
    Calls Try.prog 42 #[.pointer (some ⟨g, 0, none⟩)] w fun e w' => e = .returned (.int .i64 ((slotNo q.e : Int) + 1)) ∧ ∃ ls lf, TookQ col k w g ga q.n b D ls lf w' ∧ slotNo q.e < ls.length ∧ ls.length ≤ 10000 ∧
      ∀ y : PEn, 0 < y.u → ls.set (slotNo q.e) (nodeOf y) = nodesQ (putE q.e (slotNo q.e) y) ∧ lf = freedQ (putE q.e (slotNo q.e) y) := by
  have hlen := hG.len
  have hn8 := hG.n8
  have hfl := freed_len q.e
  have hnl : (nodesQ q.e).length = q.e.length := by simp [nodesQ]
  rcases List.eq_nil_or_concat (freedQ q.e) with h0 | ⟨l, d, h0⟩
  · rw [h0] at H
    have hN := freed_nil h0
    refine (take_more H ht (by omega)).mono ?_
    rintro e w' ⟨rfl, hT⟩
    refine ⟨by rw [hN, hnl], _, _, hT, by simp; omega, by simp; omega, fun y hy => ?_⟩
    have hp : putE q.e (slotNo q.e) y = q.e ++ [y] := by unfold putE; rw [if_neg (by omega)]
    rw [hp]
    refine ⟨?_, by rw [freed_append hy, h0]⟩
    rw [hN, ← hnl, List.set_append_right _ _ (Nat.le_refl _), Nat.sub_self]
    simp [nodesQ]
  · rw [List.concat_eq_append] at h0
    obtain ⟨h1, h2, h3⟩ := freed_last h0
    refine (take_last H ht h0 (by omega)).mono ?_
    rintro e w' ⟨rfl, hT⟩
    refine ⟨by rw [h1]; simp, _, _, hT, by omega, by omega, fun y hy => ?_⟩
    have hp : putE q.e (slotNo q.e) y = q.e.set (slotNo q.e) y := by unfold putE; rw [if_pos h2]
    rw [hp]
    exact ⟨nodes_set, (h3 y hy).symm⟩
/-- The bytes of a text, in new memory. -/
theorem conv_sB (s : ByteArray) (hs : s.size ≤ 1000000) (w : World) : ∃ c w', (convert 9 89 (.string s)).run Try.prog w = .ok (.slice (some ⟨w.heap.size, 0, none⟩) s.size c) w' ∧ Rd w' (some ⟨w.heap.size, 0, none⟩) s.size c (sB s) ∧ Below w.heap.size w w' := by
  have h := run_bytes_of_string w 9 89 5 s Try.underlying9 Try.underlying89 Try.underlying5
  have hg1 := grownCap_ge w s.size 0 5
  have hg2 := grownCap_le_maxLen w s.size 0 5 (by simp only [maxLen]; omega)
  exact ⟨_, _, h, Rd.ofString w s _ hg1 hg2 _, (Below.refl w.heap.size w).drew.alloc (by simp) _⟩
/-- len of a map in a drawn region. -/
theorem step_len_map {n : Nat} {ops : Array Oper} {o : Oper} {a : Act} {Kk : Act → World → Prop} {Q : Exit → Act → World → Prop} {E : Prop} (hgd : o.guard = none) (m : Operand)
    (ho : o.op = .call { callee := .builtin .len, args := #[m], argTypes := #[76] }) (hm : a.eval m = .map (some b)) (hown : w.ownsMap Try.prog 9 (plainElem Try.prog 3) b n D) {z : Int} (hz : ((Go.Maps.size D : Nat) : Int) = z)
    (h : Kk (a.put o.dst (.int .i64 z)) w) : if Region.wanted o (yielded ops a.tmps) = true then Oper.wp Try.prog o a w Kk Q else E := by
  have hw : Region.wanted o (yielded ops a.tmps) = true := by simp [Region.wanted, hgd]
  rw [if_pos hw]
  subst hz
  have hrun := World.ownsMap.len hown Try.underlying76 o.type
  unfold Oper.wp
  simp [execOp, ho, resolve, invoke, builtin, hm, hrun, Result.andThen]
  exact h
set_option maxHeartbeats 2000000 in
theorem pqAdd (HP : ProgA PA) (H : PqR col k w g ga q) (HA : PA col ka w ga x) (hL : Lnk q x) (hap : Apart k ka) (ht : Tidy col w) (hlt : x.t ≤ 100000000) (hqt : q.t ≤ 1000000000) (h1 : s.size ≠ 0) (h2 : ¬ 255 < s.size) (hf : q.find s = none) :
    Calls Try.prog 32 #[.pointer (some ⟨g, 0, none⟩), .string s] w fun e w' => e = .returned (.tuple #[.int .i64 (q.intern x s).1.1, .int .i64 (q.intern x s).1.2]) ∧ DidQ PA col k ka w g ga (q.intern x s).2 (q.inP x s) w' := by
  obtain ⟨hG, b, D, vN, vF, H⟩ := H
  have hlen := hG.len
  have hn8 := hG.n8
  have hGF := hG.intern x s
  have x1 := H.c1
  have x2 := H.c2
  have hown := H.ids.own
  unfold MapQ at hown
  have hsz := H.rel.size
  have hrun := World.ownsMap.len (w := w.drew) hown Try.underlying76 3
  rw [hsz] at hrun
  have hS : w.cell? ⟨g, 1, none⟩ = some (.int .i64 q.n) ∧ w.cell? ⟨g, 2, none⟩ = some (.map (some b)) ∧ (Builtin.len_ #[76] 3 #[.map (some b)]).run Try.prog w.drew = .ok (.int .i64 ((aliveN q.e : Nat) : Int)) w.drew := ⟨x1, x2, hrun⟩
  by_cases h3 : aliveN q.e = q.n
  · have E1 := Lib.hid (intern_most (q := q) h1 h2 hf h3 x)
    have E2 := Lib.hid (inP_not (q := q) (s := s) (fun e => e.2.2.2 h3) x)
    rw [E1.out] at hGF
    have HH := Lib.hid H
    have hz : ((Go.Maps.size D : Nat) : Int) = (q.n : Int) := by omega
    have hv : (((aliveN q.e : Nat) : Int) == (q.n : Int)) = true := by rw [beq_iff_eq]; omega
    clear H hlen hf hsz h3
    go_enter Try.func32, Try.ntmps32
    go_wp2
    go_region_held3 (fun w' => w'.cell? ⟨g, 1, none⟩ = some (.int .i64 q.n) ∧ w'.cell? ⟨g, 2, none⟩ = some (.map (some b)) ∧ (Builtin.len_ #[76] 3 #[.map (some b)]).run Try.prog w' = .ok (.int .i64 ((aliveN q.e : Nat) : Int)) w') (exact hS) (fail)
    go_wp2
    go_ret2
    rw [E1.out, E2.out]
    have hb := (Below.refl w.heap.size w).drew
    exact ⟨rfl, col, ⟨hGF, _, _, _, _, (HH.out.below ht hb).time _⟩, HP.below HA ht hb, StepC.below ht hb⟩
  · have ha : q.asks s := ⟨h1, h2, hf, h3⟩
    have hf' := hf
    have hz : ((Go.Maps.size D : Nat) : Int) = ((aliveN q.e : Nat) : Int) := by omega
    have hv : (((aliveN q.e : Nat) : Int) == (q.n : Int)) = false := by rw [beq_eq_false_iff_ne]; omega
    have hB := (Below.refl w.heap.size w).drew
    have H1 := H.below ht hB
    have x0 := H1.c0
    have hHA := HP.below HA ht hB
    have hal := HP.alloc hHA ht (by omega) (s.size : Int) ⟨by omega, by omega⟩
    have HH1 := Lib.hid H1
    have HHf := Lib.hid hf
    have HHl := Lib.hid hlen
    clear H H1 hsz h3 hf hlen hHA
    go_enter Try.func32, Try.ntmps32
    go_wp2
    go_region_held3 (fun w' => w'.cell? ⟨g, 1, none⟩ = some (.int .i64 q.n) ∧ w'.cell? ⟨g, 2, none⟩ = some (.map (some b)) ∧ (Builtin.len_ #[76] 3 #[.map (some b)]).run Try.prog w' = .ok (.int .i64 ((aliveN q.e : Nat) : Int)) w') (exact hS) (fail)
    go_wp2_with fail
    refine hal.mono ?_
    rintro e w4 ⟨rfl, col4, HA4, S4'⟩
    have S4 : StepC (Rng ka) col w col4 w4 := (StepC.drew ht).trans S4'
    have H4 := HH1.out.keep S4' hap.no
    have ht4 := S4.tidy
    have hgA := HP.good HA
    clear S4' hal x0 x1 x2 hown hS hrun
    by_cases h0 : (x.alloc s.size).1.2 = 0
    · have hst := hL.stored (HP.good HA) hf' h0
      have E1 := Lib.hid (intern_new ha h0)
      have E2 := Lib.hid (inP_yes ha h0)
      rw [E1.out] at hGF
      have hx1t : (x.alloc s.size).2.t ≤ 1000000000 := by rw [good_t]; omega
      have hLn := hst.2
      have hgx2 : GoodA ((x.alloc s.size).2.write (x.alloc s.size).1.1 (sB s)).2 := (hgA.alloc _).write _ (sB_bytes s)
      have hx2t : ((x.alloc s.size).2.write (x.alloc s.size).1.1 (sB s)).2.t ≤ 1000000000 := by rw [write_t, good_t]; omega
      obtain ⟨d1, d2, d3⟩ := hLn.hd hgx2 hx2t (i := slotNo q.e) (y := ⟨s, 1, (x.alloc s.size).1.1⟩) (putE_new q.e _) Nat.one_pos
      simp only at d1 d2 d3
      rw [h0]
      clear hst hLn hx2t hgx2
      generalize (x.alloc s.size).1.1 = hd at *
      generalize (x.alloc s.size).2 = x1 at *
      have h64 : Hd64 hd := ⟨⟨by omega, by omega⟩, ⟨by omega, by omega⟩, ⟨by omega, by omega⟩⟩
      have hb5 : Below w4.heap.size w4 (w4.alloc (.cells #[.int .i64 hd.1, .int .i64 hd.2.1, .int .i64 hd.2.2] 81)) := (Below.refl _ _).alloc (Nat.le_refl _) _
      have H5 := H4.below ht4 hb5
      have HA5 := HP.below HA4 ht4 hb5
      have S5 := (S4.mono (P' := fun c => Rng k c ∨ Rng ka c) rng_r).trans (StepC.below ht4 hb5)
      have ht5 := S5.tidy
      have B5 := BoxC.lit ht4 #[.int .i64 hd.1, .int .i64 hd.2.1, .int .i64 hd.2.2] 81
      obtain ⟨b0, b1, b2⟩ := B5.three
      have x0 := H5.c0
      clear hb5 H4 HA4 S4 ht4 hv hz hgA HH1
      go_upto_region 6 with fail
      obtain ⟨W5, hW5⟩ : ∃ W5, W5 = w4.alloc (.cells #[.int .i64 hd.1, .int .i64 hd.2.1, .int .i64 hd.2.2] 81) := ⟨_, rfl⟩
      rw [← hW5] at H5 HA5 S5 ht5 B5 b0 b1 b2 x0 ⊢
      clear hW5
      obtain ⟨cb, W6, hcv', hR6, hB6'⟩ := conv_sB s (by omega) W5.drew
      have hcv : (convert 9 89 (.string s)).run Try.prog W5.drew = .ok (.slice (some ⟨W5.heap.size, 0, none⟩) s.size cb) W6 := hcv'
      have hR6' : Rd W6 (some ⟨W5.heap.size, 0, none⟩) s.size cb (sB s) := hR6
      have hB6 : Below W5.heap.size W5 W6 := below_from hB6'
      have S6 : StepC (fun c => Rng k c ∨ Rng ka c) col4 W5 col4 W6 := StepC.below ht5 hB6
      have ht6 := S6.tidy
      have R6x : RdX 0 col4 W6 (some ⟨W5.heap.size, 0, none⟩) s.size cb (sB s) := ⟨hR6', fun _ b' o' sp e => by
        have e' : W5.heap.size = b' := by injection e with e; injection e
        rw [← e']; exact ht5 _ (Nat.le_refl _)⟩
      have hwr := HP.write (HP.below HA5 ht5 hB6) ht6 hx1t hd h64 hap.z2 R6x (by omega)
      have hS5 : W5.cell? ⟨g, 0, none⟩ = some (.pointer (some ⟨ga, 0, none⟩)) ∧ W5.cell? ⟨w4.heap.size, 0, none⟩ = some (.int .i64 hd.1) ∧ W5.cell? ⟨w4.heap.size, 1, none⟩ = some (.int .i64 hd.2.1) ∧ W5.cell? ⟨w4.heap.size, 2, none⟩ = some (.int .i64 hd.2.2) := ⟨x0, b0, b1, b2⟩
      have hS6 : W6.cell? ⟨g, 0, none⟩ = some (.pointer (some ⟨ga, 0, none⟩)) ∧ W6.cell? ⟨w4.heap.size, 0, none⟩ = some (.int .i64 hd.1) ∧ W6.cell? ⟨w4.heap.size, 1, none⟩ = some (.int .i64 hd.2.1) ∧ W6.cell? ⟨w4.heap.size, 2, none⟩ = some (.int .i64 hd.2.2) := ⟨c_keep x0 hB6, c_keep b0 hB6, c_keep b1 hB6, c_keep b2 hB6⟩
      have hgk : ¬ Rng ka (col4 g) := by rw [H5.box.col]; exact hap.no _ ⟨Nat.le_refl _, by omega⟩
      have hbk : ¬ Rng ka (col4 w4.heap.size) := by rw [B5.col]; exact hap.z2
      have hSk : ∀ (col7 : Col) (w7 : World), StepC (Rng ka) col4 W6 col7 w7 → (w7.cell? ⟨g, 0, none⟩ = some (.pointer (some ⟨ga, 0, none⟩)) ∧ w7.cell? ⟨w4.heap.size, 0, none⟩ = some (.int .i64 hd.1) ∧ w7.cell? ⟨w4.heap.size, 1, none⟩ = some (.int .i64 hd.2.1) ∧ w7.cell? ⟨w4.heap.size, 2, none⟩ = some (.int .i64 hd.2.2)) := fun _ _ h => ⟨h.cell hS6.1 hgk, h.cell hS6.2.1 hbk, h.cell hS6.2.2.1 hbk, h.cell hS6.2.2.2 hbk⟩
      have HH5 := Lib.hid H5
      have HB5 := Lib.hid B5
      have HB6 := Lib.hid hB6
      clear H5 HA5 B5 b0 b1 b2 x0 hcv' hR6 hR6' hB6' hB6 R6x hgk hbk
      obtain ⟨x0, b0, b1, b2⟩ := hS5
      obtain ⟨z0, z1, z2, z3⟩ := hS6
      go_cut [] from 32 to 39 (fun wx => ∃ col7, PA col7 ka wx ga (x1.write hd (sB s)).2 ∧ StepC (Rng ka) col4 W6 col7 wx)
      case first =>
        go_region_law (first | (go_simp; go_at_call 41; refine hwr.mono ?_; rintro e7 w7 ⟨rfl, col7, HA7, S7⟩))
        all_goals
          go_wp2_with fail
          go_meet
          exact ⟨_, HA7, S7⟩
      case rest =>
        obtain ⟨col7, HA7, S7⟩ := hcut
        have H7 := ((HH5.out.below ht5 HB6.out).keep S7 hap.no)
        have hrel := H7.rel
        have S57 := (S5.trans S6).trans (S7.mono rng_r)
        have B7 := ((HB5.out.keep (P := fun _ => False) (StepC.below ht5 HB6.out) id).keep S7 hap.z2)
        clear hSk hcv hwr x0 b0 b1 b2 z0 z1 z2 z3
        go_wp2_with fail
        refine (pqTake H7.toX S7.tidy hG).mono ?_
        rintro e w8 ⟨rfl, ls, lf, ⟨col8, vN8, vF8, H8, S8⟩, hN8, hls, hput⟩
        have S58 := S57.trans (S8.mono rng_l)
        have HA8 := HP.keep HA7 S8 (fun c h1 h2 => hap.no c h2 h1) hap.z1
        have B8 := B7.keep S8 hap.z1
        obtain ⟨A8, m8, hv8, hm1, hm2, hA8⟩ := H8.formN
        obtain ⟨N, hN⟩ : ∃ N : Nat, ls.length = N := ⟨_, rfl⟩
        obtain ⟨xb, rfl, hxb, hxc⟩ := hA8 (by omega)
        have x3 := H8.c3
        rw [hv8, hN] at x3
        rw [hN] at hm1 hls
        obtain ⟨M, hM⟩ : ∃ M : Nat, slotNo q.e = M := ⟨_, rfl⟩
        have hMN : (M : Int) < (N : Int) := by omega
        obtain ⟨J, hJ⟩ : ∃ J : Int, (M : Int) + 1 = J := ⟨_, rfl⟩
        have hw1 : IntKind.i64.wrap (J - 1) = (M : Int) := by rw [IntKind.wrap_i64]; omega
        have hw2 : IntKind.i64.wrap (M : Int) = (M : Int) := by rw [IntKind.wrap_i64]; omega
        have fx : ∀ z, w8.frozen? ⟨xb, z, none⟩ = false := fun z => by
          have h := H8.ns.own
          rw [hv8] at h
          exact h.free z
        have f0 := fx (M * 4)
        have f1 := fx (M * 4 + 1)
        have f2 := fx (M * 4 + 2)
        have f3 := fx (M * 4 + 3)
        have y4 : ∀ c u, (kN.enc (ls[slotNo q.e]'hN8))[c]? = some u → w8.cell? ⟨xb, M * 4 + c, none⟩ = some u := fun c u hu => by
          have h := H8.ns.own
          rw [hv8] at h
          rw [← hM]
          exact h.cell (List.getElem?_eq_getElem hN8) hu
        have y40 := y4 0 _ rfl
        have y41 := y4 1 _ rfl
        have y42 := y4 2 _ rfl
        have y43 := y4 3 _ rfl
        rw [Nat.add_zero] at y40
        obtain ⟨b0, b1, b2⟩ := B8.three
        obtain ⟨H9, S9⟩ := H8.node S8.tidy hv8 hN8 (nodeOf ⟨s, 1, hd⟩)
        rw [show nodeOf ⟨s, 1, hd⟩ = (hd, 1) from rfl, hM] at H9 S9
        simp only at H9 S9
        have HH9 := Lib.hid H9
        have HA9 := HP.keep HA8 S9 (fun c h1 h2 => hap.no c h2 h1) hap.z1
        have S59 := S58.trans (S9.mono rng_l)
        have hput2 := hput ⟨s, 1, hd⟩ Nat.one_pos
        rw [show nodeOf ⟨s, 1, hd⟩ = (hd, 1) from rfl, hM] at hput2
        have HPT := Lib.hid hput2
        have q2 := H9.c2
        have B9 := B8.keep S9 hap.z1
        obtain ⟨e0, e1, e2⟩ := B9.three
        have e3 := H9.c3
        rw [hv8, hN] at e3
        have ht9 := S9.tidy
        have hS8 : w8.cell? ⟨g, 3, none⟩ = some (.slice (some ⟨xb, 0, none⟩) N m8) ∧ w8.cell? ⟨w4.heap.size, 0, none⟩ = some (.int .i64 hd.1) ∧ w8.cell? ⟨w4.heap.size, 1, none⟩ = some (.int .i64 hd.2.1) ∧ w8.cell? ⟨w4.heap.size, 2, none⟩ = some (.int .i64 hd.2.2) := ⟨x3, b0, b1, b2⟩
        have hS9 := And.intro e3 (And.intro e0 (And.intro e1 e2))
        have HDt := Lib.hid H9.ids.tidy
        have hsz9 := Lib.hid (show Go.Maps.size D < maxLen by have h1 := hrel.size; have h2 := countP_le_len q.e; have h3 := HHl.out; simp only [maxLen]; omega)
        have hOE := hG.oneE
        have HRel := Lib.hid (hrel.put H9.ids.tidy hOE HHf.out hd (z := J) (by rw [hM, hJ]))
        have HJ := Lib.hid (show J = ((slotNo q.e + 1 : Nat) : Int) by omega)
        have hJ1 : 0 ≤ J ∧ J ≤ 1000000 := by omega
        clear H8 H9 fx y4 hput hput2 HA8 S58 S8 hA8 hv8 B8 B7 H7 HA7 S57 S9 x3 b0 b1 b2 e0 e1 e2 e3 B9 hrel
        rw [hM, hJ]
        clear hJ
        go_wp2
        go_region_held3 (fun w' => w'.cell? ⟨g, 3, none⟩ = some (.slice (some ⟨xb, 0, none⟩) N m8) ∧ w'.cell? ⟨w4.heap.size, 0, none⟩ = some (.int .i64 hd.1) ∧ w'.cell? ⟨w4.heap.size, 1, none⟩ = some (.int .i64 hd.2.1) ∧ w'.cell? ⟨w4.heap.size, 2, none⟩ = some (.int .i64 hd.2.2)) (first | exact hS8 | exact hS9) (fail)
        clear hS8 hS9
        obtain ⟨W9, hW9⟩ : ∃ W9, W9 = (((w8.setCell ⟨xb, M * 4, none⟩ (.int .i64 hd.1)).setCell ⟨xb, M * 4 + 1, none⟩ (.int .i64 hd.2.1)).setCell ⟨xb, M * 4 + 2, none⟩ (.int .i64 hd.2.2)).setCell ⟨xb, M * 4 + 3, none⟩ (.int .i64 1) := ⟨_, rfl⟩
        rw [← hW9] at HH9 HA9 S59 q2 ht9 ⊢
        clear hW9 f0 f1 f2 f3 y40 y41 y42 y43
        have hS9 : W9.cell? ⟨g, 2, none⟩ = some (.map (some b)) := q2
        have hcl := clone_str s W9.drew.drew (by omega)
        have hwfJ : (Lit.int .i64 J).wf = true := WalkArith.wf_i64 ⟨by omega, by omega⟩
        have hup : ∀ w10 : World, Below W9.heap.size W9 w10 → ∃ w11, (Instr.mapUpdate 76 (.map (some b)) (.string s) (.int .i64 J)).run Try.prog w10 = .ok () w11 ∧ (w11.cell? ⟨g, 2, none⟩ = some (.map (some b))) ∧ PqX col8 k w11 g ga q.n b (D.put (litS s) (.lit (.int .i64 J))) vN8 vF8 (ls.set M (hd, 1)) lf ∧ StepC (Rng k) col8 W9 col8 w11 := fun w10 hb10 => by
          have H10 := HH9.out.below ht9 hb10
          have hown10 := H10.ids.own
          unfold MapQ at hown10
          obtain ⟨w11, hr11, ho11, hg11⟩ := World.ownsMap.update hown10 lawS Try.underlying76 hsz9.out (keyOfS (s := s) (by simp only [maxLen]; omega)) (plainElem_int Try.underlying3 hwfJ)
          have ht10 := ht9.size hb10.size
          obtain ⟨H11, S11⟩ := H10.turnM ht10 ho11 hg11
          exact ⟨w11, hr11, H11.c2, H11, (StepC.below ht9 hb10).trans S11⟩
        go_wp2
        go_region_held3 (fun w' => w'.cell? ⟨g, 2, none⟩ = some (.map (some b))) (first | exact hS9 | exact hS10 | exact hS11)
          (first | (go_at_call 43; refine hcl.mono ?_; rintro e10 w10 ⟨rfl, hb10'⟩; have hb10 : Below W9.heap.size W9 w10 := below_from (below_from hb10'); have hS10 := c_keep hS9 hb10; obtain ⟨w11, hr11, hS11, H11, S11⟩ := hup w10 hb10))
        clear hup hcl hS9
        go_wp2
        go_ret2
        rw [E1.out, E2.out]
        rw [HPT.out.1, HPT.out.2, ← hM] at H11
        have HA11 := HP.keep HA9 S11 (fun c h1 h2 => hap.no c h2 h1) hap.z1
        exact ⟨ret2_i64 HJ.out rfl, col8, ⟨hGF, _, _, _, _, H11.toB (q := q.put s hd) HRel.out⟩, HA11, S59.trans (S11.mono rng_l)⟩
    · have E1 := Lib.hid (intern_full ha h0)
      have E2 := Lib.hid (inP_full ha h0)
      have hv2 : ((x.alloc s.size).1.2 != 0) = true := bne_iff_ne.2 h0
      rw [E1.out] at hGF
      have hb5 : Below w4.heap.size w4 (w4.alloc (.cells #[.int .i64 (x.alloc s.size).1.1.1, .int .i64 (x.alloc s.size).1.1.2.1, .int .i64 (x.alloc s.size).1.1.2.2] 81)) := (Below.refl _ _).alloc (Nat.le_refl _) _
      have H5 := Lib.hid (H4.below ht4 hb5)
      have HA5 := Lib.hid (HP.below HA4 ht4 hb5)
      have S5 := Lib.hid (S4.trans (StepC.below ht4 hb5))
      clear hb5 h0 H4 HA4 S4 ht4 ha hv hz
      go_wp2
      go_ret2
      rw [E1.out, E2.out]
      exact ⟨rfl, col4, ⟨hGF, _, _, _, _, H5.out.time _⟩, HA5.out, S5.out.mono rng_r⟩
end
end Go.Proofs.Ytenchaifnfgijaa
