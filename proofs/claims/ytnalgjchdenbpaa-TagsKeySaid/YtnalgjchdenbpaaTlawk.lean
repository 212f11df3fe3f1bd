/- heavykeyslaw03.TagsKey returns true, whatever the input. Conditions: none beyond those typed. -/
import Derived.Test.YtnalgjchdenbpaaTlawd
namespace Go.Proofs.Ytnalgjchdenbpaa
open Go.ChangeShapes Go.WideShapes Go.ChangeAt Go.RowKit
set_option linter.unusedVariables false
set_option linter.unusedSimpArgs false

/-- The argument: a slice of tags, of whatever sizes. -/
def ArgT (w : World) (A : Option Addr) (n c : Nat) (l : List Tg) : Prop :=
  l.length = n ∧ n ≤ c ∧ c ≤ maxLen ∧ (∀ t ∈ l, t.1.size ≤ maxLen ∧ t.2.size ≤ maxLen) ∧
    ∀ j t, l[j]? = some t → ∃ b o, A = some ⟨b, o, none⟩ ∧ w.cell? ⟨b, o + j * 2, none⟩ = some (.string t.1) ∧ w.cell? ⟨b, o + j * 2 + 1, none⟩ = some (.string t.2)
theorem ArgT.at_ {w : World} {A : Option Addr} {n c : Nat} {l : List Tg} (h : ArgT w A n c l) {k : Nat} (hk : k < n) :
    ∃ b o p q, A = some ⟨b, o, none⟩ ∧ l[k]? = some (p, q) ∧ p.size ≤ 9223372036854775807 ∧ q.size ≤ 9223372036854775807 ∧ b < w.heap.size ∧
      w.cell? ⟨b, o + k * 2, none⟩ = some (.string p) ∧ w.cell? ⟨b, o + k * 2 + 1, none⟩ = some (.string q) := by
  have hl : k < l.length := by rw [h.1]; exact hk
  have hg : l[k]? = some l[k] := List.getElem?_eq_getElem hl
  obtain ⟨b, o, hA, h1, h2⟩ := h.2.2.2.2 k _ hg
  have hs := h.2.2.2.1 _ (List.getElem_mem hl)
  exact ⟨b, o, l[k].1, l[k].2, hA, hg, hs.1, hs.2, World.block_lt_of_cell? w ⟨b, o + k * 2, none⟩ h1, h1, h2⟩
theorem ArgT.below {w w' : World} {A : Option Addr} {n c : Nat} {l : List Tg} (h : ArgT w A n c l) (hb : Below w.heap.size w w') : ArgT w' A n c l :=
  ⟨h.1, h.2.1, h.2.2.1, h.2.2.2.1, fun j t ht => by
    obtain ⟨b, o, hA, h1, h2⟩ := h.2.2.2.2 j t ht
    have e1 := (hb.cell (World.block_lt_of_cell? w _ h1)).trans h1
    have e2 := (hb.cell (World.block_lt_of_cell? w _ h2)).trans h2
    exact ⟨b, o, hA, e1, e2⟩⟩
/-- The sizes that the law looks at. -/
def SmallTo (l : List Tg) (k : Nat) : Prop := ∀ t ∈ l.take k, t.1.size ≤ 100 ∧ t.2.size ≤ 100
theorem SmallTo.zero (l : List Tg) : SmallTo l 0 := fun x hx => by simp at hx
theorem SmallTo.succ {l : List Tg} {k : Nat} {t : Tg} (h : SmallTo l k) (ht : l[k]? = some t) (hv : t.1.size ≤ 100 ∧ t.2.size ≤ 100) : SmallTo l (k + 1) := by
  intro x hx
  rw [List.take_add_one, ht] at hx
  rcases List.mem_append.1 hx with hx | hx
  · exact h x hx
  · simp at hx; subst hx; exact hv
theorem ArgT.rd {w : World} {A : Option Addr} {n c k : Nat} {l : List Tg} (h : ArgT w A n c l) (hs : SmallTo l k) (hk : n ≤ k) : RdT w A n c l :=
  ⟨h.1, h.2.1, h.2.2.1, fun t ht => by
    have := hs t (by rwa [List.take_of_length_le (by rw [h.1]; exact hk)])
    omega, h.2.2.2.2⟩

theorem three_cell (w : World) (x y z : Value) (t : TypeId) : (w.alloc (.cells #[x, y, z] t)).cell? ⟨w.heap.size, 0, none⟩ = some x ∧ (w.alloc (.cells #[x, y, z] t)).cell? ⟨w.heap.size, 1, none⟩ = some y ∧ (w.alloc (.cells #[x, y, z] t)).cell? ⟨w.heap.size, 2, none⟩ = some z := by
  refine ⟨?_, ?_, ?_⟩ <;> (rw [World.cell?_alloc_at _ _ _ _ rfl]; rfl)
set_option maxRecDepth 100000 in
set_option maxHeartbeats 2000000 in
theorem tagsKey_walk (A : Option Addr) (n c : Nat) (B : Option Addr) (m d : Nat) (l : List Tg) (at_ : Int) (name value : ByteArray) (w : World) (hA : ArgT w A n c l) (hB : RdI w B m d) (h1 : -9223372036854775808 ≤ at_) (h2 : at_ ≤ 9223372036854775807) (hn : name.size ≤ 9223372036854775807) (hv : value.size ≤ 9223372036854775807) :
    Calls Try.prog 4 #[.slice A n c, .slice B m d, .int .i64 at_, .string name, .string value] w (Yes w) := by
  by_cases h12 : 12 < n
  · go_enter Try.func4, Try.ntmps4
    go_wp2_with fail
    refine (awake_any _).mono ?_
    rintro e w2 ⟨rfl, hb2⟩
    go_wp2
    go_ret
    exact ⟨rfl, hb2⟩
  · go_enter Try.func4, Try.ntmps4
    go_wp2
    go_loopw [29] (fun i W => ∃ k : Nat, k ≤ n ∧ SmallTo l k ∧ Below w.heap.size w W ∧ i = .int .i64 k) (fun i _ => n - (intOf i).toNat)
    case atStart => exact ⟨0, Nat.zero_le _, SmallTo.zero l, Below.refl _ _, rfl⟩
    case round =>
      obtain ⟨k, hk, hS, hb, rfl⟩ := hrel
      have hz := hb.size
      have hRw := hA.below hb
      by_cases hlt : k < n
      · obtain ⟨b, o, p, q, rfl, hg, hp, hq, hbl, c1, c2⟩ := hRw.at_ hlt
        by_cases hsz : p.size ≤ 100 ∧ q.size ≤ 100
        · have HS := Lib.hid (hS.succ hg hsz)
          obtain ⟨hp1, hq1⟩ := hsz
          clear hg
          go_wp2
          go_roundw
          case rel => exact ⟨k + 1, by omega, HS.out, hb.alloc hz _, by go_num⟩
          case measure => simp [intOf]; omega
        · clear hg
          by_cases hp1 : 100 < p.size
          · go_wp2_with fail
            refine (awake_any _).mono ?_
            rintro e w2 ⟨rfl, hb2⟩
            go_wp2
            go_ret
            exact ⟨rfl, below_then (hb.alloc hz _) hb2⟩
          · have hq1 : 100 < q.size := by omega
            go_wp2_with fail
            refine (awake_any _).mono ?_
            rintro e w2 ⟨rfl, hb2⟩
            go_wp2
            go_ret
            exact ⟨rfl, below_then (hb.alloc hz _) hb2⟩
      · have hR0 := hRw.rd hS (by omega)
        have hBw := hB.below hb
        clear hRw hS hA hB
        go_wp2_with fail
        refine (list0_any _ _ _ _ hBw).mono ?_
        rintro e w1 ⟨A1, n1, c1, l1, rfl, hn1, hr1, _, hb1⟩
        have hR0b := hR0.below hb1
        have hBb := hBw.below hb1
        have hb1' := below_then hb hb1
        clear hR0 hBw hb hb1
        go_wp2_with fail
        refine (short_any _ _ hn).mono ?_
        rintro e w2 ⟨p, hp, rfl, rfl⟩
        go_wp2_with fail
        refine (short_any _ _ hv).mono ?_
        rintro e w2 ⟨q, hq, rfl, rfl⟩
        go_wp2_with fail
        refine (list_any _ _ _ _ _ _ _ hBb h1 h2 hp hq).mono ?_
        rintro e w3 ⟨A3, n3, c3, l3, rfl, hn3, hr3, _, hb3⟩
        have hR0c := hR0b.below hb3
        have hr1b := hr1.below hb3
        have hb3' := below_then hb1' hb3
        clear hR0b hr1 hBb hb1' hb3
        have C0 := three_cell w3 (.slice A n c) (.slice A1 n1 c1) (.slice A3 n3 c3) 25
        have P0 : ∀ k, k < 3 → ∃ A' n' c' l', (w3.alloc (.cells #[.slice A n c, .slice A1 n1 c1, .slice A3 n3 c3] 25)).cell? ⟨w3.heap.size, k, none⟩ = some (.slice A' n' c') ∧ RdT (w3.alloc (.cells #[.slice A n c, .slice A1 n1 c1, .slice A3 n3 c3] 25)) A' n' c' l' ∧ n' ≤ 12 := by
          intro k hk
          match k, hk with
          | 0, _ => exact ⟨_, _, _, _, C0.1, hR0c.alloc _, by omega⟩
          | 1, _ => exact ⟨_, _, _, _, C0.2.1, hr1b.alloc _, by omega⟩
          | 2, _ => exact ⟨_, _, _, _, C0.2.2, hr3.alloc _, by omega⟩
        have hP := Lib.hid P0
        have hW : Below w.heap.size w (w3.alloc (.cells #[.slice A n c, .slice A1 n1 c1, .slice A3 n3 c3] 25)) := hb3'.alloc hb3'.size _
        clear C0 P0 hR0c hr1b hr3 hb3'
        go_wp2
        generalize hG : w3.heap.size = G at *
        clear hG
        generalize w3.alloc (.cells #[.slice A n c, .slice A1 n1 c1, .slice A3 n3 c3] 25) = W0 at *
        go_loopw [57] (fun i W => ∃ k : Nat, k ≤ 3 ∧ Below W0.heap.size W0 W ∧ i = .int .i64 k) (fun i _ => 3 - (intOf i).toNat)
        case atStart => exact ⟨0, by omega, Below.refl _ _, rfl⟩
        case round =>
          clear hlt
          obtain ⟨k, hk, hb, rfl⟩ := hrel
          by_cases hlt : k < 3
          · obtain ⟨A', n', c', l', hc0, hR', hn'⟩ := hP.out k hlt
            have hc := (hb.cell (World.block_lt_of_cell? _ _ hc0)).trans hc0
            have hR := hR'.below hb
            have hbk := World.block_lt_of_cell? _ _ hc
            clear hc0 hR'
            go_wp2_with fail
            refine (sort_any _ _ _ _ _ hR (by omega)).mono ?_
            rintro e w4 ⟨A4, n4, c4, rfl, hn4, hr4, hb4⟩
            have hRa := hR.below hb4
            have hBa := below_then hb hb4
            clear hR hb hc hbk hb4
            go_wp2_with fail
            refine (rsort_any _ _ _ _ _ hRa (by omega)).mono ?_
            rintro e w5 ⟨A5, n5, c5, rfl, hn5, hr5, hb5⟩
            have hRb := hRa.below hb5
            have hr4b := hr4.below hb5
            have hBb := below_then hBa hb5
            clear hRa hr4 hb5 hBa
            go_wp2_with fail
            refine (key_any _ _ _ _ _ hRb (by omega)).mono ?_
            rintro e w6 ⟨rfl, hb6⟩
            have hRc := hRb.below hb6
            have hr4c := hr4b.below hb6
            have hr5c := hr5.below hb6
            have hBc := below_then hBb hb6
            clear hRb hr4b hr5 hb6 hBb
            go_wp2_with fail
            refine (rkey_any _ _ _ _ _ hRc (by omega)).mono ?_
            rintro e w7 ⟨rfl, hb7⟩
            have hr4d := hr4c.below hb7
            have hr5d := hr5c.below hb7
            have hBd := below_then hBc hb7
            clear hRc hr4c hr5c hb7 hBc
            go_wp2_with fail
            refine (same_yes _ _ _ _ _ _ _ _ hr4d hr5d (by omega) (by omega)).mono ?_
            rintro e w8 ⟨rfl, j, rfl⟩
            have hBe := below_drewN hBd j
            clear hr4d hr5d hBd
            go_wp2
            go_roundw
            case rel => exact ⟨k + 1, by omega, hBe, by go_num⟩
            case measure => simp [intOf]; omega
          · go_wp2_with fail
            refine (awake_any _).mono ?_
            rintro e w2 ⟨rfl, hb2⟩
            go_wp2
            go_ret
            exact ⟨rfl, below_then (below_then hW hb) hb2⟩
end Go.Proofs.Ytnalgjchdenbpaa
