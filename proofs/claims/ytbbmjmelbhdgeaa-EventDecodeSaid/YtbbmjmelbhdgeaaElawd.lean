/- heavykeyslaw04.EventDecode returns true, whatever the input. Conditions: none beyond those typed. -/
import Derived.Test.YtbbmjmelbhdgeaaElawb
import Derived.Test.YtbbmjmelbhdgeaaErdec2
namespace Go.Proofs.Ytbbmjmelbhdgeaa
open Go.ChangeShapes Go.WideShapes Go.ChangeAt Go.RowKit
set_option linter.unusedVariables false
set_option linter.unusedSimpArgs false
set_option maxRecDepth 100000

theorem step_app {ops : Array Oper} {o : Oper} {a : Act} {w : World} {K : Act → World → Prop} {Q : Exit → Act → World → Prop} {E : Prop} (hgd : o.guard = none) (s x : Operand)
    (ho : o.op = .call { callee := .builtin .append, args := #[s, x], argTypes := #[33, 33] })
    (base : Nat) (v : Value) (l : List Int) (hs : a.eval s = v) (A : Option Addr) (m c : Nat) (xs : List Int) (hx : a.eval x = .slice A m c)
    (hown : Own w base v l) (hr : Rd w A m c xs)
    (hbytes : l.length + m ≤ 140737488355328) (hbase : base ≤ w.heap.size)
    (h : ∀ v' w', Own w' base v' (l ++ xs) → w.grownBy w' v.ownBlock → (v'.ownBlock = v.ownBlock ∨ v'.ownBlock = some w.heap.size) → K (a.put o.dst v') w') :
    if Region.wanted o (yielded ops a.tmps) = true then Oper.wp Try.prog o a w K Q else E := by
  have hw : Region.wanted o (yielded ops a.tmps) = true := by simp [Region.wanted, hgd]
  rw [if_pos hw]
  obtain ⟨v', w', hr, h2, h3, h4⟩ := run_app base o.type v l hown A m c xs hr hbytes hbase
  unfold Oper.wp execOp
  simp only [ho, resolve, invoke, builtin, Sem.run_bind, Sem.run_pure, Result.andThen_ok, List.map_toArray, List.map_cons, List.map_nil, hs, hx, hr]
  exact h v' w' h2 h3 h4
theorem Rd.grown {w w' : World} {A : Option Addr} {n c : Nat} {l : List Int} {row : Option Nat} (h : Rd w A n c l) (hg : w.grownBy w' row) (hne : ∀ b o, A = some ⟨b, o, none⟩ → some b ≠ row) : Rd w' A n c l :=
  ⟨h.1, h.2.1, h.2.2.1, h.2.2.2.1, fun j t ht => by
    obtain ⟨b, o, hA, h1⟩ := h.2.2.2.2 j t ht
    exact ⟨b, o, hA, hg.cell h1 (hne b o hA)⟩⟩
theorem step_appB {ops : Array Oper} {o : Oper} {a : Act} {w : World} {K : Act → World → Prop} {Q : Exit → Act → World → Prop} {E : Prop} (W1 : World) (hgd : o.guard = none) (s x : Operand)
    (ho : o.op = .call { callee := .builtin .append, args := #[s, x], argTypes := #[33, 33] })
    (v : Value) (l : List Int) (hs : a.eval s = v) (A : Option Addr) (m c : Nat) (xs : List Int) (hx : a.eval x = .slice A m c)
    (hown : Own w W1.heap.size v l) (hr : Rd w A m c xs) (hbytes : l.length + m ≤ 140737488355328) (hB : Below W1.heap.size W1 w)
    (h : ∀ v' w', Own w' W1.heap.size v' (l ++ xs) → Below W1.heap.size W1 w' → (∀ A n c l, Rd w A n c l → (∀ b o, A = some ⟨b, o, none⟩ → v.ownBlock ≠ some b) → Rd w' A n c l) → K (a.put o.dst v') w') :
    if Region.wanted o (yielded ops a.tmps) = true then Oper.wp Try.prog o a w K Q else E :=
  step_app hgd s x ho W1.heap.size v l hs A m c xs hx hown hr hbytes hB.size fun v' w' hO hg _ =>
    h v' w' hO (Below.app hB hown hg hB.size (Nat.le_refl _)) fun A n c l hr hne => hr.grown hg fun b o e => fun e' => hne b o e e'.symm
theorem Own.empty' {w : World} {B h : Nat} (e : h = w.heap.size) (hB : B ≤ w.heap.size) : Own (w.alloc (.cells #[] 5)) B (.slice (some ⟨h, 0, none⟩) 0 0) [] := by
  subst e; exact (Own.empty w).weaken hB
theorem Rd.one' {w : World} {h : Nat} {z : Int} (e : h = w.heap.size) (hz : 0 ≤ z ∧ z ≤ 255) : Rd (w.alloc (.cells #[.int .u8 z] 5)) (some ⟨h, 0, none⟩) 1 1 [z] := by
  subst e; exact Rd.one w _ z hz
theorem bd1 (w : World) (o : Obj) : Below w.heap.size w (w.drew.alloc o) := (Below.refl _ _).drew.alloc (Nat.le_refl _) o
theorem bd2 (w : World) (o o' : Obj) : Below w.heap.size w ((w.drew.alloc o).alloc o') := (bd1 w o).alloc (bd1 w o).size o'
/-- Block g holds N slices of bytes. -/
def Bys (W : World) (g N : Nat) : Prop := ∀ k, k < N → ∃ A n c l, W.cell? ⟨g, k, none⟩ = some (.slice A n c) ∧ Rd W A n c l
theorem Bys.below {W W' : World} {g N : Nat} (h : Bys W g N) (hb : Below W.heap.size W W') : Bys W' g N := by
  intro k hk
  obtain ⟨A, n, c, l, h0, h1⟩ := h k hk
  exact ⟨A, n, c, l, (hb.cell (World.block_lt_of_cell? _ _ h0)).trans h0, h1.below hb⟩
theorem Bys.five {W : World} {A0 A1 A2 A3 A4 : Option Addr} {n0 n1 n2 n3 n4 c0 c1 c2 c3 c4 : Nat} {l0 l1 l2 l3 l4 : List Int} {t : TypeId} (h0 : Rd W A0 n0 c0 l0) (h1 : Rd W A1 n1 c1 l1) (h2 : Rd W A2 n2 c2 l2) (h3 : Rd W A3 n3 c3 l3) (h4 : Rd W A4 n4 c4 l4) :
    Bys (W.alloc (.cells #[.slice A0 n0 c0, .slice A1 n1 c1, .slice A2 n2 c2, .slice A3 n3 c3, .slice A4 n4 c4] t)) W.heap.size 5 := by
  intro k hk
  match k, hk with
  | 0, _ => exact ⟨A0, n0, c0, l0, by rw [World.cell?_alloc_at _ _ _ _ rfl]; rfl, h0.alloc _⟩
  | 1, _ => exact ⟨A1, n1, c1, l1, by rw [World.cell?_alloc_at _ _ _ _ rfl]; rfl, h1.alloc _⟩
  | 2, _ => exact ⟨A2, n2, c2, l2, by rw [World.cell?_alloc_at _ _ _ _ rfl]; rfl, h2.alloc _⟩
  | 3, _ => exact ⟨A3, n3, c3, l3, by rw [World.cell?_alloc_at _ _ _ _ rfl]; rfl, h3.alloc _⟩
  | 4, _ => exact ⟨A4, n4, c4, l4, by rw [World.cell?_alloc_at _ _ _ _ rfl]; rfl, h4.alloc _⟩
theorem evB_pos (l : List Tg) (t x : Int) : 1 ≤ (evB l t x).length := by
  have := enc_pos t.toNat
  unfold evB
  rw [List.length_append, List.length_append, List.length_append]; omega

set_option maxHeartbeats 2000000 in
theorem eventDecode_walk (A : Option Addr) (k c : Nat) (B : Option Addr) (m d : Nat) (at_ by_ : Int) (w : World) (hA : Arg w A k c) (hB : RdI w B m d) (h1 : -9223372036854775808 ≤ at_) (h2 : at_ ≤ 9223372036854775807) (h3 : 0 ≤ by_) (h4 : by_ ≤ 255) :
    Calls Try.prog 4 #[.slice A k c, .slice B m d, .int .i64 at_, .int .u8 by_] w (Yes w) := by
  obtain ⟨hk1, hk2, la, hRa⟩ := hA
  by_cases h300 : 300 < k
  · go_enter Try.func4, Try.ntmps4
    go_wp2_with fail
    refine (awake_any _).mono ?_
    rintro e w2 ⟨rfl, hb2⟩
    go_wp2
    go_ret
    exact ⟨rfl, hb2⟩
  obtain ⟨t, ht, hTm⟩ := mask_any at_ 1023 (by omega)
  have hTm' : bits .and .i64 at_ 1023 = (t : Int) := hTm
  clear hTm
  have hk3 : k ≤ 300 := by omega
  clear h300
  go_enter Try.func4, Try.ntmps4
  go_wp2_with fail
  refine (new_any _ _ _ _).mono ?_
  rintro e w1 ⟨rfl, rfl⟩
  go_wp2_with fail
  refine (devent_any _ (Dk.new hB)).mono ?_
  rintro e w2 ⟨A2, n2, c2, l2, x2, rfl, hR2, hn2, ho2, hx2, hD2, -⟩
  have hB2 := hD2.low
  have hs2 : ∀ t ∈ l2, t.1.size ≤ 200 ∧ t.2.size ≤ 200 := fun t ht => by have := ho2.2 t ht; omega
  have HE := Lib.hid (small_enc (l := l2) (t := (t : Int)) (by have := hR2.len; omega) hs2 (by omega) (by omega))
  clear hD2 ho2
  go_wp2_with fail
  refine (revent_any _ _ _ l2 _ _ _ hR2 (by omega) hx2).mono ?_
  rintro e w3 ⟨A3, nb, cb, rfl, hr3, hb3⟩
  have hB3 := below_then hB2 hb3
  rw [encB_yes HE.out] at hr3
  rw [HE.out]
  have hnb0 : 0 < nb := by have h := evB_pos l2 (t : Int) x2; have := hr3.len; omega
  have hnb9 : nb ≤ 4000 := by have h := evB_short HE.out hx2 hs2; have := hr3.len; omega
  generalize evB l2 (t : Int) x2 = lb at *
  obtain ⟨bb, ob, rfl⟩ := hr3.some_of hnb0
  have hRa3 := hRa.below hB3
  clear hR2 hb3 hB2 hs2
  obtain ⟨x, hx, hX⟩ := mask_any (at_ / 1024) 255 (by omega)
  have hX' : bits .and .i64 (at_ / 1024) 255 = (x : Int) := hX
  obtain ⟨y, hyy⟩ : ∃ y, y = x % nb := ⟨_, rfl⟩
  have hyl : y < nb := hyy ▸ Nat.mod_lt _ hnb0
  have hT : (x : Int).tmod (nb : Int) = (y : Int) := by rw [hyy]; rfl
  have hT2 : (x : Int) % (nb : Int) = (y : Int) := by rw [hyy]; rfl
  have j0 : (0 : Int) ≤ (y : Int) := Int.natCast_nonneg _
  have j1 : (y : Int) < (nb : Int) := by omega
  have i8 : ¬ (nb : Int) = 0 := by omega
  have i9 : ((nb : Int) == 0) = false := beq_false_of_ne i8
  have hcap := hr3.cap
  have hmx := hr3.max
  clear hX hyy
  have hown0 : Own (w3.alloc (.cells #[] 5)) w3.heap.size (.slice (some ⟨w3.heap.size, 0, none⟩) 0 0) [] := Own.empty w3
  have g1 : ([] : List Int).length + nb ≤ 140737488355328 := by simp only [List.length_nil]; omega
  have g2 : w3.heap.size ≤ (w3.alloc (.cells #[] 5)).heap.size := by simp
  have hr3' := hr3.alloc (.cells #[] 5)
  go_wp2_with (at_builtin; refine wpList_app rfl (.tmp 40) (.tmp 41) rfl w3.heap.size (.slice (some ⟨w3.heap.size, 0, none⟩) 0 0) [] rfl (some ⟨bb, ob, none⟩) nb cb lb rfl hown0 hr3' g1 g2 ?_; intro v' w4 hO' hg' hat; clear hat; rw [List.nil_append] at hO'; obtain ⟨Ac, nc, cc, rfl, hrc⟩ := hO'.form; obtain rfl : nc = nb := hrc.len.symm.trans hr3.len; obtain ⟨gc, hgc, hgb, hgl⟩ := hO'.head hnb0; subst hgc; obtain ⟨b1, o1, z1, e1, hz9, hz8, hz7, hz6, hc1⟩ := hO'.reads.at_ hyl; injection e1 with e1; injection e1 with e11 e12; subst e11; subst e12; rw [Nat.zero_add] at hc1; have hf1 := hO'.free y; have hO5 := hO'.store y (z := by_) ⟨h3, h4⟩; have B4 : Below w3.heap.size w3 w4 := Below.app ((Below.refl _ _).alloc (Nat.le_refl _) _) hown0 hg' g2 (Nat.le_refl _); clear hown0 hg' hrc hO')
  have B5 : Below w3.heap.size w3 (w4.setCell ⟨gc, y, none⟩ (.int .u8 by_)) := B4.setCell (p := ⟨gc, y, none⟩) hgb _
  have Rc5 := hO5.reads
  have Rb5 := hr3.below B5
  have Ra5 := hRa3.below B5
  have hB5 := below_then hB3 B5
  clear hgl B4 hO5 hc1 hf1 hz9 B5 hB3 hr3 hr3' hRa3 hRa hz6 hz7 hz8
  generalize w4.setCell ⟨gc, y, none⟩ (.int .u8 by_) = w5 at *
  have gb1 : ([] : List Int).length + nc ≤ 140737488355328 := g1
  have hlb := Rb5.len
  have gb2 : ([] ++ lb).length + 1 ≤ 140737488355328 := by rw [List.nil_append]; omega
  have hby : 0 ≤ by_ ∧ by_ ≤ 255 := ⟨h3, h4⟩
  have i1 : (y : Int) ≤ (cb : Int) := by omega
  have i2 : (y : Int) ≤ (nc : Int) := by omega
  have i3 : y ≤ cb := by omega
  have hyn : y ≤ nc := by omega
  have i7 : ¬ nc = 0 := by omega
  have i6 : 0 < nc := hnb0
  have i5 : (nc == 0) = false := beq_false_of_ne i7
  clear g1 g2 HE hk2
  go_region_held3 (fun _ => True) (trivial) (first | (refine step_appB w5 rfl (.tmp 63) (.tmp 64) rfl _ [] rfl (some ⟨bb, ob, none⟩) nc cb lb rfl (by first | exact Own.empty' (by simp) (by simp) | exact (Own.empty' (by simp) (by simp)).alloc _) (Rb5.below (by first | exact bd1 _ _ | exact bd2 _ _ _)) gb1 (by first | exact bd1 _ _ | exact bd2 _ _ _) ?_; intro v1 W1 hO1 hB1 hC1) | (refine step_appB w5 rfl (.tmp 65) (.tmp 67) rfl v1 _ rfl _ 1 1 [by_] rfl (by first | exact hO1 | exact hO1.alloc _) (by first | exact Rd.one' rfl hby | exact hC1 _ _ _ _ (Rd.one' (by simp) hby) (own_ne (by simp)) | exact hC1 _ _ _ _ ((Rd.one' (by simp) hby).alloc _) (own_ne (by simp))) gb2 (by first | exact hB1 | exact hB1.alloc hB1.size _) ?_; intro v2 W2 hO2 hB2 hC2; obtain ⟨A9, n9, c9, rfl, hr9⟩ := hO2.form))
  all_goals
    have Rt := (Rb5.take hyn).below hB2
    have hV := Bys.five (t := 33) (Ra5.below hB2) (Rb5.below hB2) (Rc5.below hB2) Rt hr9
    have hB6 := below_then hB5 hB2
    have hB7 := hB6.alloc hB6.size (.cells #[.slice A k c, .slice (some ⟨bb, ob, none⟩) nc cb, .slice (some ⟨gc, 0, none⟩) nc cc, .slice (some ⟨bb, ob, none⟩) y cb, .slice A9 n9 c9] 33)
    clear hC1 hC2 hO1 hO2 hB1 hB2 hr9 Rt Ra5 Rb5 Rc5 hB5 hB6 hX' hT hT2 hTm' hlb gb1 gb2
    go_wp2
    generalize hG : W2.heap.size = G at *
    generalize W2.alloc (.cells #[.slice A k c, .slice (some ⟨bb, ob, none⟩) nc cb, .slice (some ⟨gc, 0, none⟩) nc cc, .slice (some ⟨bb, ob, none⟩) y cb, .slice A9 n9 c9] 33) = W0 at *
    clear hG
    go_loopw [71] (fun i W => ∃ j : Nat, j ≤ 5 ∧ Below W0.heap.size W0 W ∧ i = .int .i64 j) (fun i _ => 5 - (intOf i).toNat)
    case atStart => exact ⟨0, by omega, Below.refl _ _, rfl⟩
    case round =>
      obtain ⟨j, hj, hb, rfl⟩ := hrel
      by_cases hlt : j < 5
      · obtain ⟨Aj, nj, cj, lj, a0, hRj⟩ := (hV.below hb) j hlt
        have hbG := World.block_lt_of_cell? _ _ a0
        have hl8 := decT_len lj hRj.bytes
        go_wp2_with fail
        refine (decode_any _ _ _ lj _ hRj).mono ?_
        rintro e w6 ⟨A6, n6, c6, rfl, hT6, hb6⟩
        have hb7 := below_then hb hb6
        have hRj6 := hRj.below hb6
        have hX6 := EBox.new w6 A6 n6 c6 (decM lj) (decW lj)
        have hbx : Below w6.heap.size w6 (w6.alloc (.cells #[.slice A6 n6 c6, .int .i64 (decM lj), .int .u64 (decW lj)] 25)) := (Below.refl _ _).alloc (Nat.le_refl _) _
        have hT7 := hT6.below hbx
        have hRj7 := hRj6.below hbx
        have hb8 := below_then hb7 hbx
        clear a0 hRj hb6 hb7 hRj6 hT6 hbx
        go_wp2_with fail
        refine (rdecode_any _ _ _ lj _ hRj7).mono ?_
        rintro e w8 ⟨A8, n8, c8, rfl, hT8, hb9⟩
        have hX8 := hX6.below hb9
        have hT7' := hT7.below hb9
        have hb10 := below_then hb8 hb9
        have hbY : Below w8.heap.size w8 (w8.alloc (.cells #[.slice A8 n8 c8, .int .i64 (decM lj), .int .u64 (decW lj)] 25)) := (Below.refl _ _).alloc (Nat.le_refl _) _
        have hY9 := EBox.new w8 A8 n8 c8 (decM lj) (decW lj)
        have hX9 := hX8.below hbY
        have hT9 := hT7'.below hbY
        have hU9 := hT8.below hbY
        have hb11 := below_then hb10 hbY
        have hn6 : n6 ≤ 1000 := by have := hT9.len; omega
        have hn8 : n8 ≤ 1000 := by have := hU9.len; omega
        have x0 := hX9.c0
        have x1 := hX9.c1
        have x2 := hX9.c2
        have z0 := hY9.c0
        have z1 := hY9.c1
        have z2 := hY9.c2
        clear hX6 hT7 hRj7 hb8 hb9 hX8 hT7' hb10 hbY hY9 hX9 hT8
        generalize decM lj = vm at *
        generalize decW lj = vw at *
        generalize decE lj = ve at *
        generalize decN lj = vn at *
        go_wp2_with fail
        refine (sameEvent_yes _ _ _ _ _ _ (decT lj) _ _ _ hT9 hU9 hn6 hn8).mono ?_
        rintro e w10 ⟨rfl, hb12⟩
        have hb13 := below_then hb11 hb12
        clear hb11 hb12 hT9 hU9 x0 x1 x2 z0 z1 z2
        go_wp2
        go_roundw
        case rel => exact ⟨j + 1, by omega, hb13, by go_num⟩
        case measure => (simp [intOf] <;> omega)
      · go_wp2_with fail
        refine (awake_any _).mono ?_
        rintro e w6 ⟨rfl, hb6⟩
        have hb7 := below_then (below_then hB7 hb) hb6
        go_wp2
        go_ret
        exact ⟨rfl, hb7⟩
end Go.Proofs.Ytbbmjmelbhdgeaa
