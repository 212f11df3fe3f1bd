/- The statements about package index: IndexCollides. Conditions: the program's tables keep their contracts (ProgMk). -/
import Derived.Test.YtdifkcjciblkpaaOsteps
namespace Go.Proofs.Ytdifkcjciblkpaa
open Go.ChangeShapes Go.WideShapes Go.ChangeAt Go.RowKit
set_option linter.unusedVariables false
set_option linter.unusedSimpArgs false
set_option maxRecDepth 100000

/-- A deck and two of the program's tables. -/
structure TwinM (PM : RepM Int) (w : World) (gd : Nat) (A : Option Addr) (m d g gq : Nat) (col : Col) (q r : MSt Int) (W : World) : Prop where
  ds : DkS w col W gd A m d
  pm : PM col 16 W g q
  rm : PM col 32 W gq r
section
variable {PM : RepM Int} {w W W' : World} {col col' : Col} {gd g gq m d : Nat} {A : Option Addr} {P : Nat → Prop} {q q' r r' : MSt Int}
theorem TwinM.tidy (h : TwinM PM w gd A m d g gq col q r W) : Tidy col W := h.ds.tidy
theorem TwinM.below (HP : ProgMi PM) (h : TwinM PM w gd A m d g gq col q r W) (hb : Below W.heap.size W W') : TwinM PM w gd A m d g gq col q r W' :=
  ⟨h.ds.below hb, HP.below h.pm h.tidy hb, HP.below h.rm h.tidy hb⟩
theorem TwinM.deck (HP : ProgMi PM) (h : TwinM PM w gd A m d g gq col q r W) (hD : Dk w W' gd A m d) (hg : W.grownBy W' (some gd)) : TwinM PM w gd A m d g gq col q r W' := by
  obtain ⟨hS, s⟩ := h.ds.deck hD hg
  exact ⟨hS, HP.keep h.pm s (fun c => no16 (by omega) (by omega)) (by omega), HP.keep h.rm s (fun c => no16 (by omega) (by omega)) (by omega)⟩
theorem TwinM.did1 (HP : ProgMi PM) (h : TwinM PM w gd A m d g gq col q r W) (hd : DidPM PM col 16 W g q' W') : ∃ col', TwinM PM w gd A m d g gq col' q' r W' := by
  obtain ⟨col', h1, s⟩ := hd
  exact ⟨col', h.ds.step s (rng1 (by omega)) (rng0 (by omega)), h1, HP.keep h.rm s (rngs_no (by omega)) (rng0 (by omega))⟩
theorem TwinM.did2 (HP : ProgMi PM) (h : TwinM PM w gd A m d g gq col q r W) (hd : DidPM PM col 32 W gq r' W') : ∃ col', TwinM PM w gd A m d g gq col' q r' W' := by
  obtain ⟨col', h1, s⟩ := hd
  exact ⟨col', h.ds.step s (rng1 (by omega)) (rng0 (by omega)), HP.keep h.pm s (rngs_no (by omega)) (rng0 (by omega)), h1⟩
end
theorem RdU.lit {w : World} {l : List Int} {cs : Array Value} (hc : cs.toList = l.map fun z => Value.int .u64 z) (hn : l.length ≤ maxLen) (hz : ∀ z ∈ l, 0 ≤ z ∧ z ≤ 18446744073709551615) (t : TypeId) {n : Nat} (hl : l.length = n) : RdU (w.alloc (.cells cs t)) (some ⟨w.heap.size, 0, none⟩) n n l := by
  subst hl
  refine ⟨rfl, Nat.le_refl _, hn, hz, fun j z hj => ⟨_, _, rfl, ?_⟩⟩
  rw [World.cell?_alloc_at _ _ _ _ rfl]
  have : cs.toList[j]? = some (.int .u64 z) := by rw [hc, List.getElem?_map, hj]; rfl
  rw [Nat.zero_add, ← Array.getElem?_toList]; exact this
set_option maxHeartbeats 8000000 in
theorem indexCollides_walk {PM : RepM Int} (HK : ProgMk PM) (A : Option Addr) (m d : Nat) (B : Option Addr) (p q0 : Nat) (w : World) (hA : RdI w A m d) (hB : RdI w B p q0) :
    Calls Try.prog 5 #[.slice A m d, .slice B p q0] w (Yes w) := by
  have HP := HK.all
  have hcapB := hB.1
  have hmaxB := hB.2.1
  simp only [maxLen] at hmaxB
  obtain ⟨i0, hi0, hz0, hz1, hz2⟩ := info_parts info_u64
  have hby : i0.bytes * 16 ≤ 281474976710656 := by rw [hz2]; omega
  have hmx : 16 ≤ maxLen := by simp only [maxLen]; omega
  have HZ2 := Lib.hid hz2
  clear hz2
  go_enter Try.func5, Try.ntmps5
  go_wp2_with fail
  refine (new_any _ _ _ _).mono ?_
  rintro e w1 ⟨rfl, rfl⟩
  have D1 := DkS.new hA
  generalize hW1 : w.alloc (.cells #[.slice A m d, .int .i64 0] 57) = W1 at *
  generalize w.heap.size = gd at *
  clear hA hW1
  go_wp2_with fail
  refine (next_dk D1.dk 10 (by omega) (by omega)).mono ?_
  rintro e W2 ⟨r, hr, rfl, h2, g2⟩
  obtain ⟨D2, _⟩ := D1.deck h2 g2
  obtain ⟨N, hN⟩ : ∃ N : Nat, r + 1 = N := ⟨_, rfl⟩
  have hn1 : IntKind.i64.wrap (1 + (r : Int)) = (N : Int) := by rw [IntKind.wrap_i64]; omega
  have hn2 : IntKind.i64.wrap (N : Int) = (N : Int) := by rw [IntKind.wrap_i64]; omega
  have hNb := Lib.hid (show 1 ≤ N ∧ N ≤ 10 by omega)
  clear D1 h2 g2 hN hr
  go_wp2_with (at_make; refine wpList_make_full _ rfl _ _ 22 rfl W2.heap.size 32 i0 _ 1 Try.underlying22 hi0 hz0 hz1 _ _ _ _ 16 rfl rfl rfl rfl hby hmx (Nat.le_refl _) ?_)
  intro W3 hown hgrow
  have O1 : OwnU W3 W2.heap.size (.slice (some ⟨W2.heap.size, 0, none⟩) 16 16) (List.replicate 16 0) := OwnU.made hown
  have hb1 : Below W2.heap.size W2 W3 := (Below.refl _ _).grown hgrow (Nat.le_refl _) (fun k hk => by cases hk)
  have D3 := D2.below hb1
  have R3 : RdU0 _ W3 (some ⟨W2.heap.size, 0, none⟩) 16 16 (List.replicate 16 0) := ⟨O1.reads, fun _ b o sp e => by injection e with e; injection e with e; subst e; exact D2.tidy _ (Nat.le_refl _)⟩
  clear hown hgrow hi0 hz0 hz1 hby hmx HZ2 O1 D2 hb1
  generalize List.replicate 16 (0 : Int) = z16 at *
  go_wp2_with fail
  refine (HP.new (k := 16) D3.tidy (by omega) R3 (N : Int) 0 (by have := hNb.out; omega) (by omega)).mono ?_
  rintro e W4 (⟨_, g, rfl, hd⟩ | ⟨h0, _⟩)
  rotate_left
  · have := hNb.out; unfold mapE tabE at h0; rw [if_neg (by omega)] at h0; exact absurd rfl h0
  obtain ⟨col4, p4, s4⟩ := hd
  have D4 := D3.step s4 (rng1 (by omega)) (rng0 (by omega))
  clear D3 R3
  have b5 : Below W4.heap.size W4 (W4.alloc (.cells #[.int .u64 3, .int .u64 1, .int .u64 4, .int .u64 1, .int .u64 5, .int .u64 9, .int .u64 2, .int .u64 6, .int .u64 5, .int .u64 3, .int .u64 5, .int .u64 8, .int .u64 9, .int .u64 7, .int .u64 9, .int .u64 3] 32)) := (Below.refl _ _).alloc (Nat.le_refl _) _
  have D5 := D4.below b5
  have p5 := HP.below p4 D4.tidy b5
  have R5 : RdU0 col4 (W4.alloc (.cells #[.int .u64 3, .int .u64 1, .int .u64 4, .int .u64 1, .int .u64 5, .int .u64 9, .int .u64 2, .int .u64 6, .int .u64 5, .int .u64 3, .int .u64 5, .int .u64 8, .int .u64 9, .int .u64 7, .int .u64 9, .int .u64 3] 32)) (some ⟨W4.heap.size, 0, none⟩) 16 16 [3, 1, 4, 1, 5, 9, 2, 6, 5, 3, 5, 8, 9, 7, 9, 3] :=
    ⟨RdU.lit rfl (by simp [maxLen]) (by decide) _ rfl, fun _ b o sp e => by injection e with e; injection e with e; subst e; exact D4.tidy _ (Nat.le_refl _)⟩
  clear D4 p4 s4 b5
  generalize ([3, 1, 4, 1, 5, 9, 2, 6, 5, 3, 5, 8, 9, 7, 9, 3] : List Int) = l16 at *
  go_wp2_with fail
  refine (HP.new (k := 32) D5.tidy (by omega) R5 (N : Int) 7 (by have := hNb.out; omega) (by omega)).mono ?_
  rintro e W5 (⟨_, gq, rfl, hd⟩ | ⟨h0, _⟩)
  rotate_left
  · have := hNb.out; unfold mapE tabE at h0; rw [if_neg (by omega)] at h0; exact absurd rfl h0
  obtain ⟨col5, q5, s5⟩ := hd
  have T5 : TwinM PM w gd A m d g gq col5 (newM Int N) (newM Int N) W5 := ⟨D5.step s5 (rng1 (by omega)) (rng0 (by omega)), HP.keep p5 s5 (rngs_no (by omega)) (rng0 (by omega)), q5⟩
  clear D5 p5 R5 s5 q5 hNb
  go_wp2
  go_loopw [11] (fun iv wr => ∃ (i : Nat) (col : Col) (q : MSt Int), i ≤ p ∧ i ≤ 60 ∧ iv = .int .i64 i ∧ TwinM PM w gd A m d g gq col q q wr) (fun iv _ => p - (intOf iv).toNat)
  case atStart => exact ⟨0, _, _, Nat.zero_le _, Nat.zero_le _, rfl, T5⟩
  case round =>
    clear T5
    obtain ⟨i, col, q, hip, hi60, rfl, T⟩ := hrel
    by_cases hend : i < p ∧ i < 60
    · have hpi : (i : Int) < (p : Int) := by omega
      have h8i : (i : Int) < 60 := by omega
      have hTT := Lib.hid T
      have hBB := Lib.hid hB
      clear T hB
      go_wp2_with fail
      refine (short_dk hTT.out.ds.dk).mono ?_
      rintro e W2 ⟨key, ht, rfl, h2, g2⟩
      have T2 := Lib.hid (hTT.out.deck HP h2 g2)
      obtain ⟨bB, oB, s, rfl, c2, hs0, hs1⟩ := (hBB.out.below T2.out.ds.since.below).2.2 i hend.1
      obtain ⟨V, hVm, hV⟩ := mask_any s 1 (by omega)
      have hV' : bits .and .i64 s 1 = (V : Int) := hV
      have hk : key.size ≤ 281474976710656 := by omega
      clear h2 g2 hTT hBB hV
      have hV4 : V = 0 ∨ V = 1 := by omega
      go_upto_if 69 with fail
      go_cut [13, 14, 15, 16] from 52 to 126 (fun va vb vc vd wx => ∃ (col' : Col) (q' : MSt Int), TwinM PM w gd A m d g gq col' q' q' wx)
      case first =>
        rcases hV4 with rfl | rfl
        rotate_left
        · go_wp2_with fail
          refine (HP.del T2.out.pm T2.out.tidy key hk).mono ?_
          rintro e w3 ⟨rfl, hd3⟩
          obtain ⟨col3, T3⟩ := T2.out.did1 HP hd3
          go_wp2_with fail
          refine (HP.del T3.rm T3.tidy key hk).mono ?_
          rintro e w4 ⟨rfl, hd4⟩
          obtain ⟨col4, T4⟩ := T3.did2 HP hd4
          clear T3 hd3 hd4
          generalize getG 0 q key = gv at *
          have hne : (gv.2 != gv.2) = false := by simp
          go_wp2_with fail
          go_meet
          exact ⟨_, _, T4⟩
        · go_wp2_with fail
          refine (HP.put T2.out.pm T2.out.tidy key (i : Int) hk ⟨by omega, by omega⟩).mono ?_
          rintro e w3 ⟨rfl, hd3⟩
          obtain ⟨col3, T3⟩ := T2.out.did1 HP hd3
          go_wp2_with fail
          refine (HP.put T3.rm T3.tidy key (i : Int) hk ⟨by omega, by omega⟩).mono ?_
          rintro e w4 ⟨rfl, hd4⟩
          obtain ⟨col4, T4⟩ := T3.did2 HP hd4
          clear T3 hd3 hd4
          go_wp2_with fail
          go_meet
          exact ⟨_, _, T4⟩
      case rest =>
        clear T2 hV4 hV' hVm c2
        obtain ⟨col5, q5, T5⟩ := hcut
        have hlen5 := (HP.good T5.pm).len
        have hn85 := (HP.good T5.pm).n8
        go_wp2_with fail
        refine (HP.get T5.pm T5.tidy key hk).mono ?_
        rintro e W6 ⟨rfl, hb6⟩
        have T6 := T5.below HP hb6
        clear T5 hb6
        go_wp2_with fail
        refine (HP.get T6.rm T6.tidy key hk).mono ?_
        rintro e W7 ⟨rfl, hb7⟩
        have T7 := T6.below HP hb7
        clear T6 hb7
        generalize getG 0 q5 key = gv at *
        have hne : (gv.2 != gv.2) = false := by simp
        go_wp2_with fail
        refine (HK.keys T7.pm T7.tidy).mono ?_
        rintro e W8 ⟨A8, c8, rfl, R8, _, hb8⟩
        have T8 := T7.below HP hb8
        clear T7 hb8
        go_wp2_with fail
        refine (HK.keys T8.rm T8.tidy).mono ?_
        rintro e W9 ⟨A9, c9, rfl, R9, _, hb9⟩
        have T9 := T8.below HP hb9
        have R89 := R8.below hb9
        clear T8 hb9 R8
        go_wp2_with fail
        refine (sameTexts_yes _ _ _ _ _ q5.keys W9 R89 R9).mono ?_
        rintro e W10 ⟨rfl, hb10⟩
        have T10 := T9.below HP hb10
        clear T9 hb10 R89 R9
        go_wp2
        go_roundw
        case rel => exact ⟨i + 1, _, _, by omega, by omega, by go_num, T10⟩
        case measure => (simp [intOf] <;> omega)
    · have hE := Lib.hid T.ds.since
      clear T hB
      by_cases hp : i < p
      · have hpi : (i : Int) < (p : Int) := by omega
        have h5i : ¬ (i : Int) < 60 := by omega
        go_wp2_with fail
        refine (oawake_any HP _).mono ?_
        rintro e WI ⟨rfl, hbI⟩
        have hb := (hE.out.below2 hbI).below
        clear hE hbI
        go_wp2
        go_ret
        exact ⟨rfl, hb⟩
      · have hpi : ¬ (i : Int) < (p : Int) := by omega
        go_wp2_with fail
        refine (oawake_any HP _).mono ?_
        rintro e WI ⟨rfl, hbI⟩
        have hb := (hE.out.below2 hbI).below
        clear hE hbI
        go_wp2
        go_ret
        exact ⟨rfl, hb⟩
end Go.Proofs.Ytdifkcjciblkpaa
