/- Words laid together in one text. Conditions: none beyond those typed. -/
import Derived.Test.YtlfhkhnhcckajaaGreatDoorSoadd
import Derived.Test.YtlfhkhnhcckajaaGreatDoorZ15
import Derived.Deep.CutRange
import Derived.Test.YtlfhkhnhcckajaaGreatDoorZ16
import Derived.Test.YtlfhkhnhcckajaaGreatDoorShelf
import Derived.Sort.OwnSorted
import Derived.Sort.Walk0
import Derived.Test.YtlfhkhnhcckajaaGreatDoorZ17
/- The program's tables: allows, Swap. Conditions: none beyond those typed. -/
namespace Go.Proofs.YtlfhkhnhcckajaaGreatDoor
open Go.ChangeShapes Go.WideShapes Go.ChangeAt Go.RowKit
set_option linter.unusedVariables false
set_option linter.unusedSimpArgs false
set_option maxRecDepth 100000

/-- What Swap refuses of an entry. -/
def alE (t : TSt) (e old : En) : Int := if e.1.size = 0 then 3 else if (t.get e.1).2 = true then 10 else if e.2.1 + e.2.2 ≤ ctE old then 0 else 1
section
variable {P : Nat → Prop} {c2 c3 : Col} {w w' : World} {g n i : Nat} {t : TSt} {X : List Xn} {x : Xn} {s : ByteArray} {z : Int} {e old : En}
theorem tFind_any (T : SoT c2 w g t) (ht : Tidy c2 w) (hs : s.size ≤ 281474976710656) :
    Calls Tryz.prog 31 #[.pointer (some ⟨g, 0, none⟩), .string s] w fun e w' => e = .returned (.tuple #[.agg (VE (t.get s).1), .bool (t.get s).2]) ∧ Below w.heap.size w w' := by
  obtain ⟨X, hl, hG, gr, gm, bE, c, m, M, E, H, L⟩ := T
  rw [get_getX hl L.keys]
  exact soFind_any H L ht hs
set_option maxHeartbeats 4000000 in
theorem tAllows_any (T : SoT c2 w g t) (ht : Tidy c2 w) (hs : e.1.size ≤ 281474976710656) (h1 : 0 ≤ e.2.1 ∧ e.2.1 ≤ 18446744073709551615) (h2 : 0 ≤ e.2.2 ∧ e.2.2 ≤ 18446744073709551615) (h3 : 0 ≤ old.2.1 ∧ 0 ≤ old.2.2 ∧ old.2.1 + old.2.2 ≤ 9223372036854775808) :
    Calls Tryz.prog 33 #[.pointer (some ⟨g, 0, none⟩), .agg (VE e), .agg (VE old)] w fun r w' => r = .returned (.int .i64 (alE t e old)) ∧ Below w.heap.size w w' := by
  obtain ⟨k, o, sl⟩ := e
  obtain ⟨ko, oo, os⟩ := old
  have hs' : k.size ≤ 281474976710656 := hs
  have h1' : 0 ≤ o ∧ o ≤ 18446744073709551615 := h1
  have h2' : 0 ≤ sl ∧ sl ≤ 18446744073709551615 := h2
  have h3' : 0 ≤ oo ∧ 0 ≤ os ∧ oo + os ≤ 9223372036854775808 := h3
  clear hs h1 h2 h3
  have b0 : Below w.heap.size w (w.alloc (.cells #[.string k, .int .u64 o, .int .u64 sl] 32)) := (Below.refl _ _).alloc (Nat.le_refl _) _
  have b1 : Below w.heap.size w ((w.alloc (.cells #[.string k, .int .u64 o, .int .u64 sl] 32)).alloc (.cells #[.string ko, .int .u64 oo, .int .u64 os] 32)) := b0.alloc b0.size _
  have hsz : (w.alloc (.cells #[.string k, .int .u64 o, .int .u64 sl] 32)).heap.size = w.heap.size + 1 := by simp
  have X4 : BoxC c2 ((w.alloc (.cells #[.string k, .int .u64 o, .int .u64 sl] 32)).alloc (.cells #[.string ko, .int .u64 oo, .int .u64 os] 32)) w.heap.size 0 (VE (k, o, sl)) 32 := BoxC.keep (P := fun _ => False) ⟨heap_alloc_new _ _, ht _ (Nat.le_refl _)⟩ (StepC.alloc (ht.size b0.size) _) (fun h => h)
  have X5 : BoxC c2 ((w.alloc (.cells #[.string k, .int .u64 o, .int .u64 sl] 32)).alloc (.cells #[.string ko, .int .u64 oo, .int .u64 os] 32)) (w.heap.size + 1) 0 (VE (ko, oo, os)) 32 := by
    rw [← hsz]
    exact ⟨heap_alloc_new _ _, ht _ (by rw [hsz]; omega)⟩
  have t1 := ht.size b1.size
  have T1 := T.below ht b1
  have y40 : ((w.alloc (.cells #[.string k, .int .u64 o, .int .u64 sl] 32)).alloc (.cells #[.string ko, .int .u64 oo, .int .u64 os] 32)).cell? ⟨w.heap.size, 0, none⟩ = some (.string k) := X4.cell 0 rfl
  by_cases hk0 : k.size = 0
  · have hb : k.toList.isEmpty = true := (ba_empty hk0).1
    have HE := Lib.hid (show alE t (k, o, sl) (ko, oo, os) = 3 from if_pos hk0)
    have HB := Lib.hid b1
    rw [HE.out]
    clear X4 X5 t1 T1 T b0 b1 HE hk0
    go_enter Tryz.func33, Tryz.ntmps33
    go_wp2
    go_ret
    exact ⟨rfl, HB.out⟩
  have hb : k.toList.isEmpty = false := ba_some (by omega)
  obtain ⟨W1, hW1⟩ : ∃ W, W = (w.alloc (.cells #[.string k, .int .u64 o, .int .u64 sl] 32)).alloc (.cells #[.string ko, .int .u64 oo, .int .u64 os] 32) := ⟨_, rfl⟩
  obtain ⟨G4, hG4⟩ : ∃ G, w.heap.size = G := ⟨_, rfl⟩
  have y40r := y40
  rw [← hW1] at X4 X5 t1 T1 b1 y40
  rw [hG4] at X4 X5 y40
  have hC := fun (W : World) (hb : Below W1.heap.size W1 W) => tFind_any (T1.below t1 hb) (t1.size hb.size) hs'
  obtain ⟨⟨r, bR⟩, hR⟩ : ∃ q, t.get k = q := ⟨_, rfl⟩
  have hAl : alE t (k, o, sl) (ko, oo, os) = if bR = true then 10 else if o + sl ≤ oo + os then 0 else 1 := by
    unfold alE
    rw [if_neg (show ¬ (k, o, sl).1.size = 0 from hk0)]
    show (if (t.get k).2 = true then _ else _) = _
    rw [hR]
    rfl
  obtain ⟨an, han⟩ : ∃ an, (if bR = true then (10 : Int) else if o + sl ≤ oo + os then 0 else 1) = an := ⟨_, rfl⟩
  rw [hAl, han]
  have HN := Lib.hid han
  simp only [hR] at hC
  have bd := (Below.refl W1.heap.size W1).drew
  have bda := bd.alloc (Nat.le_refl _) (.cells #[.string ⟨#[]⟩, .int .u64 0, .int .u64 0] 32)
  have hcell : ∀ W, Below W1.heap.size W1 W → W.cell? ⟨G4, 0, none⟩ = some (.string k) := fun W hb => (cellB y40 hb).1
  have hBxN : ∀ w5, Below (W1.drew.alloc (.cells #[.string ⟨#[]⟩, .int .u64 0, .int .u64 0] 32)).heap.size (W1.drew.alloc (.cells #[.string ⟨#[]⟩, .int .u64 0, .int .u64 0] 32)) w5 → BoxC c2 w5 W1.heap.size 0 (VE zeroE) 32 := fun w5 hb => by
    have t2 : Tidy c2 (W1.drew.alloc (.cells #[.string ⟨#[]⟩, .int .u64 0, .int .u64 0] 32)) := t1.size (by simp)
    have B0 : BoxC c2 (W1.drew.alloc (.cells #[.string ⟨#[]⟩, .int .u64 0, .int .u64 0] 32)) W1.heap.size 0 (VE zeroE) 32 := ⟨heap_alloc_new W1.drew _, t1 _ (Nat.le_refl _)⟩
    exact B0.keep (P := fun _ => False) (StepC.below t2 hb) (fun h => h)
  have HX := Lib.hid (And.intro X4 (And.intro X5 (And.intro t1 b1)))
  have y40d : W1.drew.cell? ⟨G4, 0, none⟩ = some (.string k) := y40
  clear T T1 X4 X5 t1 b0 b1 hR hAl han
  go_enter Tryz.func33, Tryz.ntmps33
  go_wp2_with fail
  go_upto_region 3 with fail
  rw [← hW1]
  clear hW1 y40r hsz hG4
  go_region_held3 (fun W => W.cell? ⟨G4, 0, none⟩ = some (.string k)) (exact hcell _ (by first | exact bd | exact bda | exact b5' | exact b5'.alloc b5'.size _ | exact ((b5'.setCell (p := ⟨W1.heap.size, 0, none⟩) (Nat.le_refl _) _).setCell (p := ⟨W1.heap.size, 1, none⟩) (Nat.le_refl _) _).setCell (p := ⟨W1.heap.size, 2, none⟩) (Nat.le_refl _) _)) ((go_at_call 31; refine (hC _ (by first | exact bd | exact bda)).mono ?_; rintro e' w5 ⟨rfl, b5⟩; have b5' : Below W1.heap.size W1 w5 := (by first | exact below_then bd b5 | exact below_then bda b5); try (have B5 := hBxN _ b5; have z0 : w5.cell? ⟨W1.heap.size, 0, none⟩ = some (.string ⟨#[]⟩) := B5.cell 0 rfl; have z1 : w5.cell? ⟨W1.heap.size, 1, none⟩ = some (.int .u64 0) := B5.cell 1 rfl; have z2 : w5.cell? ⟨W1.heap.size, 2, none⟩ = some (.int .u64 0) := B5.cell 2 rfl; have f0 := B5.free 0; have f1 := B5.free 1; have f2 := B5.free 2)))
  all_goals
    first
      | (have q := z0
         have bF : Below W1.heap.size W1 (((w5.setCell ⟨W1.heap.size, 0, none⟩ (.string r.1)).setCell ⟨W1.heap.size, 1, none⟩ (.int .u64 r.2.1)).setCell ⟨W1.heap.size, 2, none⟩ (.int .u64 r.2.2)) := ((b5'.setCell (p := ⟨W1.heap.size, 0, none⟩) (Nat.le_refl _) _).setCell (p := ⟨W1.heap.size, 1, none⟩) (Nat.le_refl _) _).setCell (p := ⟨W1.heap.size, 2, none⟩) (Nat.le_refl _) _
         clear q B5 z0 z1 z2 f0 f1 f2
         generalize (((w5.setCell ⟨W1.heap.size, 0, none⟩ (.string r.1)).setCell ⟨W1.heap.size, 1, none⟩ (.int .u64 r.2.1)).setCell ⟨W1.heap.size, 2, none⟩ (.int .u64 r.2.2)) = W6 at *)
      | (have bF : Below W1.heap.size W1 (w5.alloc (.cells #[.string r.1, .int .u64 r.2.1, .int .u64 r.2.2] 32)) := b5'.alloc b5'.size _
         generalize w5.alloc (.cells #[.string r.1, .int .u64 r.2.1, .int .u64 r.2.2] 32) = W6 at *)
    obtain ⟨X4, X5, t1, b1⟩ := HX.out
    have X4' := X4.keep (P := fun _ => False) (StepC.below t1 bF) (fun h => h)
    have X5' := X5.keep (P := fun _ => False) (StepC.below t1 bF) (fun h => h)
    have u1 : W6.cell? ⟨G4, 1, none⟩ = some (.int .u64 o) := X4'.cell 1 rfl
    have u2 : W6.cell? ⟨G4, 2, none⟩ = some (.int .u64 sl) := X4'.cell 2 rfl
    have v1 : W6.cell? ⟨G4 + 1, 1, none⟩ = some (.int .u64 oo) := X5'.cell 1 rfl
    have v2 : W6.cell? ⟨G4 + 1, 2, none⟩ = some (.int .u64 os) := X5'.cell 2 rfl
    have HB := Lib.hid (below_then b1 bF)
    clear HX X4 X5 X4' X5' t1 b1 bF b5 b5' hcell hBxN bd bda hC y40 y40d
    cases bR
    · have hA := add_any o sl W6 h1' h2'
      by_cases hov : o ≤ 18446744073709551615 - sl
      · rw [addV_yes hov, addB_yes hov] at hA
        have HN2 := Lib.hid (show ∀ v, (o + sl ≤ oo + os → v = (0 : Int)) → (¬ o + sl ≤ oo + os → v = 1) → v = an from fun v g1 g2 => by
          have h := HN.out
          rw [if_neg (show ¬ false = true from Bool.noConfusion)] at h
          by_cases hc : o + sl ≤ oo + os
          · rw [if_pos hc] at h; rw [g1 hc]; exact h
          · rw [if_neg hc] at h; rw [g2 hc]; exact h)
        obtain ⟨Q, hQ⟩ : ∃ Q, o + sl = Q := ⟨_, rfl⟩
        obtain ⟨C, hC⟩ : ∃ C, oo + os = C := ⟨_, rfl⟩
        have hw : IntKind.u64.wrap (oo + os) = C := by rw [hC]; exact IntWalk.u64_in _ ⟨by omega, by omega⟩
        have HQC := Lib.hid (And.intro hQ hC)
        rw [hQ] at hA
        clear hQ hC
        by_cases hle : Q ≤ C
        · have hgt : ¬ Q > C := by omega
          go_wp2_with fail
          refine hA.mono ?_
          rintro e' w7 ⟨rfl, hw7⟩
          subst hw7
          go_wp2
          go_ret
          have hz := HN2.out 0 (fun _ => rfl) (fun h => by have q1 := HQC.out.1; have q2 := HQC.out.2; omega)
          rw [← hz]
          exact ⟨rfl, HB.out⟩
        · have hgt : Q > C := by omega
          go_wp2_with fail
          refine hA.mono ?_
          rintro e' w7 ⟨rfl, hw7⟩
          subst hw7
          go_wp2
          go_ret
          have hz := HN2.out 1 (fun h => by have q1 := HQC.out.1; have q2 := HQC.out.2; omega) (fun _ => rfl)
          rw [← hz]
          exact ⟨rfl, HB.out⟩
      · rw [addV_no hov, addB_no hov] at hA
        go_wp2_with fail
        refine hA.mono ?_
        rintro e' w7 ⟨rfl, hw7⟩
        subst hw7
        go_wp2
        go_ret
        have hz : (1 : Int) = an := by rw [← HN.out, if_neg (show ¬ false = true from Bool.noConfusion), if_neg (by omega)]
        rw [← hz]
        exact ⟨rfl, HB.out⟩
    · go_wp2
      go_ret
      have hz : (10 : Int) = an := by simpa using HN.out
      rw [← hz]
      exact ⟨rfl, HB.out⟩
/-- What Swap does, by what allows says. -/
theorem swap_al (hz : 0 ≤ e.2.2) (hp : t.get s = (old, true)) : ∃ i, placeE t.l s = some i ∧ t.l[i]? = some old ∧ t.swapS s e = if alE t e old = 0 then ((old, 0), { t with l := withoutE t.l i ++ [swapE t.base e] }) else ((zeroE, alE t e old), t) := by
  unfold TSt.get at hp
  cases h : placeE t.l s with
  | none => rw [h] at hp; injection hp with _ hp; cases hp
  | some i =>
    rw [h] at hp
    obtain ⟨e0, he0, -, hil⟩ := placeE_some h
    have hp' : ((t.l[i]?).getD zeroE, true) = (old, true) := hp
    rw [he0] at hp'
    have heo : e0 = old := by injection hp'
    subst heo
    refine ⟨i, rfl, he0, ?_⟩
    unfold TSt.swapS alE
    rw [h]
    show (if e.1.size = 0 then _ else _) = _
    by_cases c1 : e.1.size = 0
    · rw [if_pos c1, if_pos c1, if_neg (by decide)]
    rw [if_neg c1, if_neg c1]
    have hd : (placeE t.l e.1).isSome = (t.get e.1).2 := by unfold TSt.get; cases placeE t.l e.1 <;> rfl
    rw [hd]
    by_cases c2 : (t.get e.1).2 = true
    · rw [if_pos c2, if_pos c2, if_neg (by decide)]
    rw [if_neg c2, if_neg c2, ctAt_at he0, he0]
    by_cases c3 : e.2.1 + e.2.2 ≤ ctE e0
    · rw [if_neg (fun h => h ⟨by omega, by omega⟩), if_pos c3, if_pos rfl]; rfl
    · rw [if_pos (fun h => c3 (by omega)), if_neg c3, if_neg (by decide)]
theorem swapE_max (base : Int) (e : En) : max e.2.2 (subV base e.2.1) = (swapE base e).2.2 ∨ (e.2.2 < 0) := by
  unfold swapE subV
  by_cases h : base < e.2.1
  · rw [if_pos h, if_neg (by omega)]
    show max e.2.2 0 = e.2.2 ∨ _
    omega
  · rw [if_neg h]
    by_cases h2 : e.2.1 < base ∧ e.2.2 < base - e.2.1
    · rw [if_pos h2]; left; show max e.2.2 (base - e.2.1) = base - e.2.1; omega
    · rw [if_neg h2]
      show max e.2.2 (base - e.2.1) = e.2.2 ∨ _
      omega
set_option maxHeartbeats 4000000 in
theorem tSwap_no (T : SoT c2 w g t) (ht : Tidy c2 w) (hs : s.size ≤ 281474976710656) (e : En) (hp : t.get s = (old, false)) :
    Calls Tryz.prog 11 #[.pointer (some ⟨g, 0, none⟩), .string s, .agg (VE e)] w fun r w' => r = .returned (.tuple #[.agg (VE zeroE), .int .i64 8]) ∧ DidST c2 w g t w' := by
  obtain ⟨k, o, sl⟩ := e
  obtain ⟨ko, oo, os⟩ := old
  have b0 : Below w.heap.size w (w.alloc (.cells #[.string k, .int .u64 o, .int .u64 sl] 32)) := (Below.refl _ _).alloc (Nat.le_refl _) _
  have b1 : Below w.heap.size w ((w.alloc (.cells #[.string k, .int .u64 o, .int .u64 sl] 32)).alloc (.cells #[.string ⟨#[]⟩, .int .u64 0, .int .u64 0] 32)) := b0.alloc b0.size _
  have hsz : (w.alloc (.cells #[.string k, .int .u64 o, .int .u64 sl] 32)).heap.size = w.heap.size + 1 := by simp
  have X1 : BoxC c2 ((w.alloc (.cells #[.string k, .int .u64 o, .int .u64 sl] 32)).alloc (.cells #[.string ⟨#[]⟩, .int .u64 0, .int .u64 0] 32)) (w.heap.size + 1) 0 (VE zeroE) 32 := by
    rw [← hsz]
    exact ⟨heap_alloc_new _ _, ht _ (by rw [hsz]; omega)⟩
  have t1 := ht.size b1.size
  have hGt := tGet_any (T.below ht b1) t1 hs
  rw [hp] at hGt
  obtain ⟨W1, hW1⟩ : ∃ W, W = ((w.alloc (.cells #[.string k, .int .u64 o, .int .u64 sl] 32)).alloc (.cells #[.string ⟨#[]⟩, .int .u64 0, .int .u64 0] 32)) := ⟨_, rfl⟩
  obtain ⟨G, hG⟩ : ∃ G, w.heap.size + 1 = G := ⟨_, rfl⟩
  rw [← hW1] at X1 t1 hGt b1
  rw [hG] at X1
  have hGW : w.heap.size ≤ G := by omega
  have HT := Lib.hid T
  clear b0 hp hsz T
  go_enter Tryz.func11, Tryz.ntmps11
  go_wp2_with fail
  rw [← hW1]
  clear hW1
  refine hGt.mono ?_
  rintro e w2 ⟨rfl, b2⟩
  have b3 : Below W1.heap.size W1 (w2.alloc (.cells #[.string ko, .int .u64 oo, .int .u64 os] 32)) := b2.alloc b2.size _
  have X3 : BoxC c2 (w2.alloc (.cells #[.string ko, .int .u64 oo, .int .u64 os] 32)) G 0 (VE zeroE) 32 := X1.keep (P := fun _ => False) (StepC.below t1 b3) (fun h => h)
  obtain ⟨hX, hB, z0, z1, z2, f0, f1, f2⟩ := boxE X3 (w0 := w) hGW (below_then b1 b3) zeroE
  have z0' : (w2.alloc (.cells #[.string ko, .int .u64 oo, .int .u64 os] 32)).cell? ⟨G, 0, none⟩ = some (.string ⟨#[]⟩) := z0
  have z1' : (w2.alloc (.cells #[.string ko, .int .u64 oo, .int .u64 os] 32)).cell? ⟨G, 1, none⟩ = some (.int .u64 0) := z1
  have z2' : (w2.alloc (.cells #[.string ko, .int .u64 oo, .int .u64 os] 32)).cell? ⟨G, 2, none⟩ = some (.int .u64 0) := z2
  have HX := Lib.hid hX
  have HD := Lib.hid (show DidST c2 w g t _ from ⟨c2, HT.out.below ht hB, StepC.below ht hB⟩)
  clear X1 X3 hGt b1 b2 b3 hGW hG t1 z0 z1 z2 hX hB HT
  go_wp2
  refine bodyPost_ret (results_cell_row2 rfl _ _ G _ _ (0, 0) _ rfl HX.out Tryz.underlying32 rfl (by kernel_rfl)) rfl ?_
  exact ⟨rfl, HD.out⟩
set_option maxHeartbeats 4000000 in
theorem tSwap_ref (T : SoT c2 w g t) (ht : Tidy c2 w) (hs : s.size ≤ 281474976710656) (hk : e.1.size ≤ 281474976710656) (h1 : 0 ≤ e.2.1 ∧ e.2.1 ≤ 18446744073709551615) (h2 : 0 ≤ e.2.2 ∧ e.2.2 ≤ 18446744073709551615) (hp : t.get s = (old, true)) (ho : 0 ≤ old.2.1 ∧ 0 ≤ old.2.2 ∧ old.2.1 + old.2.2 ≤ 9223372036854775808) (hne : alE t e old ≠ 0) :
    Calls Tryz.prog 11 #[.pointer (some ⟨g, 0, none⟩), .string s, .agg (VE e)] w fun r w' => r = .returned (.tuple #[.agg (VE zeroE), .int .i64 (alE t e old)]) ∧ DidST c2 w g t w' := by
  have hAl := fun (W : World) (hb : Below w.heap.size w W) => tAllows_any (T.below ht hb) (ht.size hb.size) hk h1 h2 ho
  obtain ⟨an, han⟩ : ∃ an, alE t e old = an := ⟨_, rfl⟩
  rw [han] at hne ⊢
  simp only [han] at hAl
  obtain ⟨k, o, sl⟩ := e
  obtain ⟨ko, oo, os⟩ := old
  have b0 : Below w.heap.size w (w.alloc (.cells #[.string k, .int .u64 o, .int .u64 sl] 32)) := (Below.refl _ _).alloc (Nat.le_refl _) _
  have b1 : Below w.heap.size w ((w.alloc (.cells #[.string k, .int .u64 o, .int .u64 sl] 32)).alloc (.cells #[.string ⟨#[]⟩, .int .u64 0, .int .u64 0] 32)) := b0.alloc b0.size _
  have hsz : (w.alloc (.cells #[.string k, .int .u64 o, .int .u64 sl] 32)).heap.size = w.heap.size + 1 := by simp
  have X5 : BoxC c2 ((w.alloc (.cells #[.string k, .int .u64 o, .int .u64 sl] 32)).alloc (.cells #[.string ⟨#[]⟩, .int .u64 0, .int .u64 0] 32)) w.heap.size 0 (VE (k, o, sl)) 32 := BoxC.keep (P := fun _ => False) ⟨heap_alloc_new _ _, ht _ (Nat.le_refl _)⟩ (StepC.alloc (ht.size b0.size) _) (fun h => h)
  have X1 : BoxC c2 ((w.alloc (.cells #[.string k, .int .u64 o, .int .u64 sl] 32)).alloc (.cells #[.string ⟨#[]⟩, .int .u64 0, .int .u64 0] 32)) (w.heap.size + 1) 0 (VE zeroE) 32 := by
    rw [← hsz]
    exact ⟨heap_alloc_new _ _, ht _ (by rw [hsz]; omega)⟩
  have t1 := ht.size b1.size
  have hGt := tGet_any (T.below ht b1) t1 hs
  rw [hp] at hGt
  obtain ⟨W1, hW1⟩ : ∃ W, W = ((w.alloc (.cells #[.string k, .int .u64 o, .int .u64 sl] 32)).alloc (.cells #[.string ⟨#[]⟩, .int .u64 0, .int .u64 0] 32)) := ⟨_, rfl⟩
  obtain ⟨G5, hG5⟩ : ∃ G, w.heap.size = G := ⟨_, rfl⟩
  obtain ⟨G, hG⟩ : ∃ G, G5 + 1 = G := ⟨_, rfl⟩
  rw [← hW1] at X1 X5 t1 hGt b1
  rw [hG5] at X5
  rw [hG5, hG] at X1
  have hGW : w.heap.size ≤ G := by omega
  have HT := Lib.hid (And.intro T hAl)
  have hnb : (an == 0) = false := beq_false_of_ne hne
  have hnb2 : (an != 0) = true := by rw [bne, hnb]; rfl
  clear b0 hp hsz T hAl han
  go_enter Tryz.func11, Tryz.ntmps11
  go_wp2_with fail
  rw [← hW1]
  clear hW1
  refine hGt.mono ?_
  rintro e w2 ⟨rfl, b2⟩
  have b3 : Below W1.heap.size W1 (w2.alloc (.cells #[.string ko, .int .u64 oo, .int .u64 os] 32)) := b2.alloc b2.size _
  have X3 : BoxC c2 (w2.alloc (.cells #[.string ko, .int .u64 oo, .int .u64 os] 32)) G 0 (VE zeroE) 32 := X1.keep (P := fun _ => False) (StepC.below t1 b3) (fun h => h)
  have X6 : BoxC c2 (w2.alloc (.cells #[.string ko, .int .u64 oo, .int .u64 os] 32)) G5 0 (VE (k, o, sl)) 32 := X5.keep (P := fun _ => False) (StepC.below t1 b3) (fun h => h)
  have p0 : (w2.alloc (.cells #[.string ko, .int .u64 oo, .int .u64 os] 32)).cell? ⟨G5, 0, none⟩ = some (.string k) := X6.cell 0 rfl
  have p1 : (w2.alloc (.cells #[.string ko, .int .u64 oo, .int .u64 os] 32)).cell? ⟨G5, 1, none⟩ = some (.int .u64 o) := X6.cell 1 rfl
  have p2 : (w2.alloc (.cells #[.string ko, .int .u64 oo, .int .u64 os] 32)).cell? ⟨G5, 2, none⟩ = some (.int .u64 sl) := X6.cell 2 rfl
  have q0 : (w2.alloc (.cells #[.string ko, .int .u64 oo, .int .u64 os] 32)).cell? ⟨w2.heap.size, 0, none⟩ = some (.string ko) := (World.cell?_alloc_at (w := w2) _ _ _ _ rfl).trans rfl
  have q1 : (w2.alloc (.cells #[.string ko, .int .u64 oo, .int .u64 os] 32)).cell? ⟨w2.heap.size, 1, none⟩ = some (.int .u64 oo) := (World.cell?_alloc_at (w := w2) _ _ _ _ rfl).trans rfl
  have q2 : (w2.alloc (.cells #[.string ko, .int .u64 oo, .int .u64 os] 32)).cell? ⟨w2.heap.size, 2, none⟩ = some (.int .u64 os) := (World.cell?_alloc_at (w := w2) _ _ _ _ rfl).trans rfl
  have bb := below_then b1 b3
  have hC := HT.out.2 (w2.alloc (.cells #[.string ko, .int .u64 oo, .int .u64 os] 32)) bb
  have t3 := t1.size b3.size
  obtain ⟨W3, hW3⟩ : ∃ W, W = w2.alloc (.cells #[.string ko, .int .u64 oo, .int .u64 os] 32) := ⟨_, rfl⟩
  rw [← hW3] at hC X3 t3 bb
  clear X1 X5 X6 hGt b1 b2 b3 t1
  go_wp2_with fail
  rw [← hW3]
  clear hW3 p0 p1 p2 q0 q1 q2
  refine hC.mono ?_
  rintro e w4 ⟨rfl, b4⟩
  have X4 := X3.keep (P := fun _ => False) (StepC.below t3 b4) (fun h => h)
  obtain ⟨hX, hB, z0, z1, z2, f0, f1, f2⟩ := boxE X4 (w0 := w) hGW (below_then bb b4) zeroE
  have z0' : w4.cell? ⟨G, 0, none⟩ = some (.string ⟨#[]⟩) := z0
  have z1' : w4.cell? ⟨G, 1, none⟩ = some (.int .u64 0) := z1
  have z2' : w4.cell? ⟨G, 2, none⟩ = some (.int .u64 0) := z2
  have HX := Lib.hid hX
  have HD := Lib.hid (show DidST c2 w g t _ from ⟨c2, HT.out.1.below ht hB, StepC.below ht hB⟩)
  clear X3 X4 hC b4 bb hGW hG hG5 t3 z0 z1 z2 hX hB HT
  go_wp2
  refine bodyPost_ret (results_cell_row2 rfl _ _ G _ _ (0, 0) _ rfl HX.out Tryz.underlying32 rfl (by kernel_rfl)) rfl ?_
  exact ⟨rfl, HD.out⟩
end
end Go.Proofs.YtlfhkhnhcckajaaGreatDoor

/- The program's tables of string values: where a search ends. Conditions: none beyond those typed. -/
namespace Go.Proofs.YtlfhkhnhcckajaaGreatDoor
open Go.ChangeShapes Go.WideShapes Go.ChangeAt Go.RowKit
set_option linter.unusedVariables false
set_option linter.unusedSimpArgs false
set_option maxRecDepth 100000

section
variable {P : Nat → Prop} {col col' : Col} {w w' : World} {k g n u N : Nat} {T : List Int} {seed : Int} {A : Option Addr} {cT b c : Nat} {t : Tb ByteArray} {home : ByteArray → Nat} {s : ByteArray}
/-- Where a search ends: at the key, or at a free place, and then the key is nowhere. -/
def Founds (t : Tb ByteArray) (home : ByteArray → Nat) (s : ByteArray) (i : Nat) (yes : Bool) : Prop :=
  (yes = true ∧ ∃ v, t[i]? = some (some (s, v))) ∨ (yes = false ∧ Emp t i ∧ (∀ q, q < t.length → dst t.length (home s) q < dst t.length (home s) i → Occ t q) ∧ ∀ (p : Nat) (v : ByteArray), t[p]? ≠ some (some (s, v)))
def FindOuts (t : Tb ByteArray) (home : ByteArray → Nat) (s : ByteArray) (N : Nat) (w : World) (r : Ending) (w' : World) : Prop := ∃ (i : Nat) (yes : Bool), r = .returned (.tuple #[.int .i64 i, .bool yes]) ∧ i < N ∧ Founds t home s i yes ∧ w = w'
end
end Go.Proofs.YtlfhkhnhcckajaaGreatDoor

/- The program's tables of string values: New, and what a nil table returns. Conditions: none beyond those typed. -/
namespace Go.Proofs.YtlfhkhnhcckajaaGreatDoor
open Go.ChangeShapes Go.WideShapes Go.ChangeAt Go.RowKit
set_option linter.unusedVariables false
set_option linter.unusedSimpArgs false
set_option maxRecDepth 100000

section
variable {P : Nat → Prop} {col col' : Col} {w w' W : World} {k g n u N : Nat} {T : List Int} {seed : Int} {A : Option Addr} {cT b c gm bc cc : Nat} {t : Tb ByteArray} {home : ByteArray → Nat} {s : ByteArray} {m : MSt ByteArray} {v : ByteArray}
theorem plOfs_free (home : ByteArray → Nat) (N : Nat) : (List.replicate N (none : Option (ByteArray × ByteArray))).map (plOf (⟨#[]⟩ : ByteArray) home) = List.replicate N ((false, 0, ⟨#[]⟩, (⟨#[]⟩ : ByteArray)) : Pl ByteArray) := by simp [plOf]
end
end Go.Proofs.YtlfhkhnhcckajaaGreatDoor

/- slices.Sort of a row of texts of the call's own; make of an empty row with room. Conditions: none beyond those typed. -/
namespace Go.Proofs.YtlfhkhnhcckajaaGreatDoor
open Go.ChangeShapes Go.WideShapes Go.ChangeAt Go.RowKit Go.Sort
set_option linter.unusedVariables false
set_option linter.unusedSimpArgs false
set_option maxRecDepth 100000

def bytesT (l : List ByteArray) : List (List UInt8) := l.map fun z => z.data.toList
def ofBytesT (l : List (List UInt8)) : List ByteArray := l.map fun b => ⟨b.toArray⟩
/-- In ascending order. -/
def ordT (l : List ByteArray) : List ByteArray := ofBytesT ((bytesT l).mergeSort fun x y => decide (x ≤ y))
theorem bytes_of (l : List (List UInt8)) : bytesT (ofBytesT l) = l := by
  induction l with
  | nil => rfl
  | cons a r ih => exact congrArg (List.cons a) ih
theorem of_bytes (l : List ByteArray) : ofBytesT (bytesT l) = l := by
  induction l with
  | nil => rfl
  | cons a r ih => exact congrArg (List.cons a) ih
theorem cells_enc (l : List ByteArray) : cellsK kT l = (bytesT l).map encStr := by
  induction l with
  | nil => rfl
  | cons a r ih => rw [cellsK_cons, ih]; simp [bytesT, kT, encStr]
theorem ord_len (l : List ByteArray) : (ordT l).length = l.length := by simp [ordT, ofBytesT, bytesT]
theorem ord_mem (l : List ByteArray) (s : ByteArray) : s ∈ ordT l ↔ s ∈ l := by
  unfold ordT ofBytesT bytesT
  simp only [List.mem_map, List.mem_mergeSort]
  constructor
  · rintro ⟨_, ⟨z, hz, rfl⟩, rfl⟩; simpa using hz
  · intro hs; exact ⟨_, ⟨s, hs, rfl⟩, by simp⟩
theorem le_bl (x y : List UInt8) : decide (x ≤ y) = !Op.bytesLess y x := by
  rw [bytesLess_eq, ← decide_not]
  apply decide_eq_decide.2
  exact Iff.rfl
theorem ord_srt {l : List ByteArray} (hn : l.Nodup) : (ordT l).Pairwise fun a b => sless a b = true := by
  have h1 : ((bytesT l).mergeSort fun x y => decide (x ≤ y)).Pairwise fun x y => decide (x ≤ y) = true := by
    apply List.pairwise_mergeSort
    · intro x y z h1 h2
      rw [le_bl] at h1 h2 ⊢
      cases hzx : Op.bytesLess z x with
      | false => rfl
      | true =>
        rcases bl_total x y with e | e | e
        · subst e; rw [hzx] at h2; cases h2
        · rw [bl_trans _ _ _ hzx e] at h2; cases h2
        · rw [e] at h1; cases h1
    · intro x y
      rw [le_bl, le_bl]
      cases hxy : Op.bytesLess y x with
      | false => rfl
      | true => rw [bl_asymm hxy]; rfl
  have h2 : ((bytesT l).mergeSort fun x y => decide (x ≤ y)).Nodup := (List.mergeSort_perm _ _).nodup_iff.2 (by
    unfold bytesT
    refine List.Pairwise.map _ ?_ hn
    intro a b hab e
    exact hab (ByteArray.ext (Array.toList_inj.1 e)))
  unfold ordT ofBytesT
  refine List.Pairwise.map _ ?_ (h1.and h2)
  intro a b hab
  have h3 := hab.1
  rw [le_bl] at h3
  unfold sless
  rw [Lib.toList_data, Lib.toList_data]
  rcases bl_total a b with e | e | e
  · exact absurd e hab.2
  · simpa using e
  · rw [e] at h3; cases h3
theorem ordT_any {w : World} {g c n : Nat} {l : List ByteArray} (h : OwnK kT w (.slice (some ⟨g, 0, none⟩) n c) l) (hn : n ≤ 1000000) :
    Calls Tryz.prog 80 #[.slice (some ⟨g, 0, none⟩) n c] w fun e w' => e = .returned (.tuple #[]) ∧ OwnK kT w' (.slice (some ⟨g, 0, none⟩) n c) (ordT l) ∧ w.grownBy w' (some g) := by
  obtain rfl := h.len
  have hb0 : w.ownsRow 0 kT.ty kT.k (.slice (some ⟨g, 0, none⟩) l.length c) l.length (cellsK kT l) := h
  rcases hb0.2 with ⟨hnil, _⟩ | ⟨g', cap, cur, hv, hbase, hb, h1, h2, h3, h4⟩
  · cases hnil
  injection hv with e1 e2 e3
  injection e1 with e1
  injection e1 with e1
  subst e1 e3
  have hl : (bytesT l).length = l.length := by simp [bytesT]
  have h4' : cur.toList.take (bytesT l).length = (bytesT l).map encStr := by
    rw [cells_enc, show kT.k = 1 from rfl, Nat.mul_one] at h4
    rw [hl]; exact h4
  have hH := holds_of_block hb h4'
  have hcall := Tryz.slices_Sort_string g 0 c (bytesT l) w hH (Array.getElem?_eq_some_iff.1 hb).1 (by rw [hl]; omega)
  rw [hl] at hcall
  refine hcall.mono ?_
  rintro e w' ⟨rfl, q, os, rfl⟩
  have hts : ((bytesT l).mergeSort fun x y => decide (x ≤ y)).length = (bytesT l).length := by simp
  have hrow := ownsRow_sorted (w := w) (base := 0) (n := q) (os := os) hts hbase hb (by rw [hl]; exact h1) h2 (by simpa [kT] using h3)
  refine ⟨rfl, ?_, grownBy_sorted _⟩
  show World.ownsRow _ 0 kT.ty kT.k _ (ordT l).length (cellsK kT (ordT l))
  rw [cells_enc, ord_len]
  unfold ordT
  rw [bytes_of]
  rw [hl] at hrow
  exact hrow
end Go.Proofs.YtlfhkhnhcckajaaGreatDoor

/- The program's tables of numbers: Keys; all that the statements use of them. Conditions: none beyond those typed. -/
namespace Go.Proofs.YtlfhkhnhcckajaaGreatDoor
open Go.ChangeShapes Go.WideShapes Go.ChangeAt Go.RowKit
set_option linter.unusedVariables false
set_option linter.unusedSimpArgs false
set_option maxRecDepth 100000

section
variable {α : Type} {t : Tb α} {i : Nat} {e : ByteArray × α}
/-- The keys in their places' order. -/
def keysT (t : Tb α) : List ByteArray := (ents t).map Prod.fst
theorem keysT_yes (h : t[i]? = some (some e)) : keysT (t.take (i + 1)) = keysT (t.take i) ++ [e.1] := by
  rw [List.take_add_one, h]
  simp [keysT, ents]
theorem keysT_no (h : t[i]? = some none) : keysT (t.take (i + 1)) = keysT (t.take i) := by
  rw [List.take_add_one, h]
  simp [keysT, ents]
theorem keysT_le (t : Tb α) : (keysT t).length ≤ t.length := by
  rw [keysT, List.length_map]
  exact List.length_filterMap_le _ _
end
section
variable {P : Nat → Prop} {col col' : Col} {w w' W : World} {k g n u N : Nat} {T : List Int} {seed : Int} {A : Option Addr} {cT b c gm bc : Nat} {t : Tb Int} {home : ByteArray → Nat} {s : ByteArray} {m : MSt Int} {v : Int}
theorem noneKeysi (w : World) : Calls Tryz.prog 64 #[.pointer none] w fun e w' => ∃ A c, e = .returned (.slice A 0 c) ∧ Below w.heap.size w w' := by
  go_enter Tryz.func64, Tryz.ntmps64
  go_wp2
  go_ret
  exact ⟨none, 0, rfl, Below.refl _ _⟩
set_option maxHeartbeats 4000000 in
theorem keysi_any (H : PMi col k w g m) (ht : Tidy col w) : Calls Tryz.prog 64 #[.pointer (some ⟨g, 0, none⟩)] w (KeysOut w m.keys) := by
  obtain ⟨hG, T, seed, A, cT, b, c, N, t, M, hL, R⟩ := H
  obtain ⟨_, hlN, hN6, hN0, hlen⟩ := M.room hG hL R
  have x3 := M.c3
  have x4 := M.c4
  obtain ⟨hcp, hcm⟩ := M.cap
  have hM := Lib.hid M
  have hcnt := R.count hG hL
  have hfin := Lib.hid (show ∀ l, l = keysT t → ordT l = m.keys from fun l e => by
    subst e
    exact R.keys hG (ord_srt hL.nodup) fun s => ord_mem _ s)
  obtain ⟨u0, hu0⟩ : ∃ u0, m.l.length = u0 := ⟨_, rfl⟩
  have hkl : (keysT t).length = u0 := by rw [← hu0, ← hcnt]; exact List.length_map ..
  obtain ⟨CS, hmk, hOw⟩ := make0_any kT (n := u0) (by omega)
  have hmk' : ∀ W : World, (Instr.makeSlice 56 (.int .i64 0) (.int .i64 (u0 : Int))).run Tryz.prog W = .ok (.slice (some ⟨W.heap.size, 0, none⟩) 0 u0) (W.alloc (.cells CS 9)) := hmk
  have HO := Lib.hid (hOw w)
  have B0 : Below w.heap.size w (w.alloc (.cells CS 9)) := (Below.refl _ _).alloc (Nat.le_refl _) _
  have HB0 := Lib.hid B0
  have x4' := (cellB x4 B0).1
  have hmkl : m.keys.length = u0 := by rw [← hu0]; exact keys_len m
  have HML := Lib.hid hmkl
  have HKL := Lib.hid hkl
  rw [hu0] at x3
  clear hmk hOw M R hL hG hcnt hkl hmkl
  go_enter Tryz.func64, Tryz.ntmps64
  go_wp2
  go_loopw [3, 18] (fun kv iv wr => ∃ (i gk d nk : Nat) (l : List ByteArray), i ≤ N ∧ iv = .int .i64 (i : Int) ∧ kv = .slice (some ⟨gk, 0, none⟩) nk d ∧ l = keysT (t.take i) ∧ nk ≤ i ∧ OwnK kT wr (.slice (some ⟨gk, 0, none⟩) nk d) l ∧ w.heap.size ≤ gk ∧ Below w.heap.size w wr) (fun _ iv _ => N - (intOf iv).toNat)
  case atStart => exact ⟨0, w.heap.size, u0, 0, [], Nat.zero_le _, rfl, rfl, rfl, Nat.le_refl _, HO.out, Nat.le_refl _, HB0.out⟩
  case round =>
    obtain ⟨i, gk, d, nk, l, hi, rfl, rfl, hl, hni, O, hgk, hB⟩ := hrel
    clear x3 x4 x4' HO HB0 B0 hmk'
    by_cases hlt : i < N
    · have hil : i < t.length := by omega
      have hiI : (i : Int) < (N : Int) := by omega
      have M := hM.out.below ht hB
      rcases occ_or hil with ⟨⟨kk, v⟩, ho⟩ | hem
      · have hr : (t.map (plOf 0 (homeT T seed N)))[i]? = some (plOf 0 (homeT T seed N) (some (kk, v))) := by rw [List.getElem?_map, ho]; rfl
        obtain ⟨y0, y1, y2, y3, _⟩ := M.at_ hr
        have y0' : wr.cell? ⟨b, i * 4, none⟩ = some (.bool true) := y0
        have y1' : wr.cell? ⟨b, i * 4 + 1, none⟩ = some (.int .i64 (homeT T seed N kk : Int)) := y1
        have y2' : wr.cell? ⟨b, i * 4 + 2, none⟩ = some (.string kk) := y2
        have y3' : wr.cell? ⟨b, i * 4 + 3, none⟩ = some (.int .i64 v) := y3
        have HL := Lib.hid (show l ++ [kk] = keysT (t.take (i + 1)) by rw [keysT_yes ho, hl])
        have hln := O.len
        generalize homeT T seed N kk = hm at y1'
        have O1 : OwnK kT ((wr.alloc (.cells #[.bool true, .int .i64 (hm : Int), .string kk, .int .i64 v] 121)).alloc (.cells #[.string kk] 9)) (.slice (some ⟨gk, 0, none⟩) nk d) l := (O.alloc _).alloc _
        have R1 : RdG kT ((wr.alloc (.cells #[.bool true, .int .i64 (hm : Int), .string kk, .int .i64 v] 121)).alloc (.cells #[.string kk] 9)) (some ⟨wr.heap.size + 1, 0, none⟩) 1 1 [kk] := RdG.one2 kT kk rfl rfl (by simp)
        have B1 : Below w.heap.size w ((wr.alloc (.cells #[.bool true, .int .i64 (hm : Int), .string kk, .int .i64 v] 121)).alloc (.cells #[.string kk] 9)) := (hB.alloc hB.size _).alloc (hB.alloc hB.size _).size _
        have N1 : New w (.slice (some ⟨gk, 0, none⟩) nk d) := New.lit hgk
        have hby : l.length + 1 ≤ 1000000000 := by omega
        have hl2 : (l ++ [kk]).length = nk + 1 := by simp [hln]
        have h0n : 0 < nk + 1 := by omega
        clear y0 y1 y2 y3 hr ho hl M hln
        go_wp2_with (at_builtin; refine wpList_appK kT rfl (.tmp 24) (.tmp 27) rfl _ l rfl _ 1 1 [kk] rfl O1 R1 hby ?_; intro v2 w2 O2 G2 hat2; have N2 : New w v2 := New.app N1 B1 hat2; have B2 := B1.grown G2 B1.size (fun q hq => N1 q hq); obtain ⟨A2, c2, rfl, _, _⟩ := O2.form hl2; obtain ⟨g2, rfl, _⟩ := O2.head h0n; have hg2 := N2 g2 rfl)
        go_roundw
        case rel => exact ⟨i + 1, g2, c2, nk + 1, l ++ [kk], by omega, by go_num, by first | rfl | (push_cast; rfl), HL.out, by omega, O2, hg2, B2⟩
        case measure => (simp [intOf] <;> omega)
      · have hem' : t[i]? = some none := hem
        have hr : (t.map (plOf 0 (homeT T seed N)))[i]? = some (plOf 0 (homeT T seed N) none) := by rw [List.getElem?_map, hem']; rfl
        obtain ⟨y0, y1, y2, y3, _⟩ := M.at_ hr
        have y0' : wr.cell? ⟨b, i * 4, none⟩ = some (.bool false) := y0
        have y1' : wr.cell? ⟨b, i * 4 + 1, none⟩ = some (.int .i64 0) := y1
        have y2' : wr.cell? ⟨b, i * 4 + 2, none⟩ = some (.string ⟨#[]⟩) := y2
        have y3' : wr.cell? ⟨b, i * 4 + 3, none⟩ = some (.int .i64 0) := y3
        have HL := Lib.hid (show l = keysT (t.take (i + 1)) by rw [keysT_no hem']; exact hl)
        clear y0 y1 y2 y3 hr hem hem' hl M
        go_wp2
        go_roundw
        case rel => exact ⟨i + 1, gk, d, nk, l, by omega, by go_num, rfl, HL.out, by omega, O.below ((Below.refl _ _).alloc (Nat.le_refl _) _), hgk, hB.alloc hB.size _⟩
        case measure => (simp [intOf] <;> omega)
    · have hiN : i = N := by omega
      have HL := Lib.hid (show l = keysT t by rw [hl, hiN, List.take_of_length_le (by omega)])
      have HN := Lib.hid (show nk = u0 by rw [← O.len, HL.out, HKL.out])
      have hiI : ¬ (i : Int) < (N : Int) := by omega
      have hS := ordT_any O (by omega)
      clear hl hiN
      go_wp2_with fail
      refine hS.mono ?_
      rintro r w2 ⟨rfl, O2, G2⟩
      have B2 : Below w.heap.size w w2 := hB.grown G2 hB.size (fun q hq => by injection hq with hq; omega)
      go_wp2
      go_ret
      unfold KeysOut
      rw [HML.out, ← HN.out, ← hfin.out l HL.out]
      exact ⟨some ⟨gk, 0, none⟩, d, rfl, O2.reads, fun b' o sp e => by injection e with e; injection e with e; omega, B2⟩
end
end Go.Proofs.YtlfhkhnhcckajaaGreatDoor
