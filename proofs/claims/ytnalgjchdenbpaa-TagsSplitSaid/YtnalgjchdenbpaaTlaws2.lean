/- heavykeyslaw03.TagsSplit returns true, whatever the input. Conditions: none beyond those typed. -/
import Derived.Test.YtnalgjchdenbpaaTbytes
namespace Go.Proofs.Ytnalgjchdenbpaa
open Go.ChangeShapes Go.WideShapes Go.ChangeAt Go.RowKit
set_option linter.unusedVariables false
set_option linter.unusedSimpArgs false

section
variable {w : World} {base : Nat} {A : Option Addr} {n c : Nat} {l : List Int}
theorem Own.len (h : Own w base (.slice A n c) l) : l.length = n := by
  rcases h.1.2 with ⟨h, hn⟩ | ⟨g, cap, cur, h, _⟩
  · injection h with _ h2 _; omega
  · injection h with _ h2 _; omega
theorem Own.reads (h : Own w base (.slice A n c) l) : Rd w A n c l := by
  obtain ⟨A', n', c', e, hr⟩ := h.form
  injection e with e1 e2 e3
  subst e1 e2 e3
  exact hr
theorem Own.head (h : Own w base (.slice A n c) l) (hn : 0 < n) : ∃ g, A = some ⟨g, 0, none⟩ ∧ base ≤ g ∧ g < w.heap.size := by
  have hl := h.len
  rcases h.1.2 with ⟨h', hn'⟩ | ⟨g, cap, cur, h', hb, hg, _⟩
  · omega
  · injection h' with h1 _ _
    refine ⟨g, h1, hb, ?_⟩
    rcases Nat.lt_or_ge g w.heap.size with hlt | hge
    · exact hlt
    · rw [Array.getElem?_eq_none hge] at hg; cases hg
end
section
variable {w : World} {base : Nat} {g n c : Nat} {l : List Int}
theorem Own.free (h : Own w base (.slice (some ⟨g, 0, none⟩) n c) l) (k : Nat) : w.frozen? ⟨g, k, none⟩ = false := by
  obtain rfl := h.len
  exact h.1.frozenAt k
theorem Own.store (h : Own w base (.slice (some ⟨g, 0, none⟩) n c) l) (k : Nat) {z : Int} (hz : 0 ≤ z ∧ z ≤ 255) : Own (w.setCell ⟨g, k, none⟩ (.int .u8 z)) base (.slice (some ⟨g, 0, none⟩) n c) (l.set k z) := by
  obtain rfl := h.len
  refine ⟨?_, fun y hy => ?_⟩
  · rw [List.length_set, List.map_set]
    exact (h.1.stored k _).1
  · rcases List.mem_or_eq_of_mem_set hy with h' | rfl
    · exact h.2 y h'
    · exact hz
end
/-- string(b) of bytes that read. -/
theorem conv_any {w : World} {b o n c : Nat} {l : List Int} (h : Rd w (some ⟨b, o, none⟩) n c l) :
    ∃ s : ByteArray, s.size = n ∧ (convert 39 9 (.slice (some ⟨b, o, none⟩) n c)).run Try.prog w.drew = .ok (.string s) w.drew := by
  have hl := h.len
  refine ⟨⟨(l.map fun z => UInt8.ofNat z.toNat).toArray⟩, by rw [ba_size]; simp [hl], ?_⟩
  have hb := h.bytes
  have e := run_convert_bytes_back (P := Try.prog) w.drew 39 9 5 ⟨b, o, none⟩ c (l.map fun z => UInt8.ofNat z.toNat) Try.underlying39 Try.underlying5 Try.underlying9 (fun j hj => by
    have hj' : j < l.length := by simpa using hj
    obtain ⟨b', o', hA, hc⟩ := h.2.2.2.2 j _ (List.getElem?_eq_getElem hj')
    injection hA with hA; injection hA with e1 e2; subst e1; subst e2
    rw [Addr.add_lit]
    have hz := hb _ (List.getElem_mem hj')
    have : ((UInt8.ofNat (l[j]).toNat).toNat : Int) = l[j] := by rw [UInt8.toNat_ofNat']; omega
    rw [List.getElem_map, this]
    exact hc)
  rw [List.length_map, hl] at e
  exact e
/-- []byte of a literal slice of bytes: the same slice; the place behind its last cell is marked. -/
theorem conv_same (w : World) : (convert 39 39 (.slice (some ⟨w.heap.size, 0, none⟩) 3 3)).run Try.prog (w.alloc (.cells #[.int .u8 1, .int .u8 97, .int .u8 0] 5)) =
    .ok (.slice (some ⟨w.heap.size, 0, none⟩) 3 3) (w.alloc (.cells #[.int .u8 1, .int .u8 97, .int .u8 0] 5 (3, 4))) := by
  have hh : ∀ C : Array Value, (w.alloc (.cells C 5)).heap[w.heap.size]? = some (.cells C 5 (0, 0)) := fun C => heap_alloc_new w _
  have hsh : ∀ C : Array Value, (w.alloc (.cells C 5)).shape? w.heap.size = some (5, C.size) := fun C => by
    unfold World.shape?
    rw [hh]
  have hfr : ∀ (C : Array Value) (n : Nat), (w.alloc (.cells C 5)).freeze ⟨w.heap.size, n, none⟩ 1 = w.alloc (.cells C 5 (n, n + 1)) := fun C n => by
    have hm : ∀ (a : Array Obj) (x : Obj) (f : Obj → Obj), (a.push x).modify a.size f = a.push (f x) := by
      intro a x f
      apply Array.ext
      · simp
      · intro i h1 h2
        simp only [Array.getElem_modify, Array.getElem_push]
        by_cases h : a.size = i
        · subst h
          simp
        · have hi : i < a.size := by simp at h1; omega
          simp [h, hi]
    unfold World.freeze
    rw [if_neg (by decide)]
    show ({ w.alloc (.cells C 5) with heap := (w.heap.push (.cells C 5)).modify w.heap.size _ } : World) = _
    rw [hm]
    rfl
  simp [convert, run_underlying Try.underlying39, run_underlying Try.underlying5, markStringish, hsh]
  exact hfr _ _
theorem Rd.ofString (w : World) (s : ByteArray) (cap : Nat) (h1 : s.size ≤ cap) (h2 : cap ≤ maxLen) (fz : Nat × Nat) :
    Rd (w.drew.alloc (.cells (bytesRow s cap) 5 fz)) (some ⟨w.heap.size, 0, none⟩) s.size cap (s.data.toList.map fun b => (b.toNat : Int)) := by
  refine ⟨by rw [List.length_map, ← ba_size], h1, h2, ?_, fun j z hz => ⟨_, _, rfl, ?_⟩⟩
  · intro z hz
    obtain ⟨b, _, rfl⟩ := List.mem_map.1 hz
    have := b.toNat_lt
    omega
  · rw [List.getElem?_map] at hz
    have hj : j < s.data.size := by
      rcases Nat.lt_or_ge j s.data.size with h | h
      · exact h
      · rw [List.getElem?_eq_none (by simpa using h)] at hz; cases hz
    have e := bytesRow_at s cap j hj
    have hb : s.data.toList[j]? = some s.data[j] := by simp [hj]
    rw [hb] at hz
    rw [← Option.some.inj hz, Nat.zero_add]
    have hh : (w.drew.alloc (.cells (bytesRow s cap) 5 fz)).heap[w.heap.size]? = some (.cells (bytesRow s cap) 5 fz) := heap_alloc_new w.drew _
    rw [cell_of_row _ w.heap.size j _ _ fz hh]
    exact e
theorem Rd.three (w : World) : Rd (w.alloc (.cells #[.int .u8 1, .int .u8 97, .int .u8 0] 5 (3, 4))) (some ⟨w.heap.size, 0, none⟩) 3 3 [1, 97, 0] :=
  ⟨rfl, Nat.le_refl _, by simp [maxLen], fun z hz => by simp at hz; omega, fun j z hz => by
    refine ⟨_, _, rfl, ?_⟩
    have hh : (w.alloc (.cells #[.int .u8 1, .int .u8 97, .int .u8 0] 5 (3, 4))).heap[w.heap.size]? = some (.cells #[.int .u8 1, .int .u8 97, .int .u8 0] 5 (3, 4)) := heap_alloc_new w _
    rw [cell_of_row _ w.heap.size _ _ _ (3, 4) hh, Nat.zero_add]
    match j, hz with
    | 0, hz => simp at hz; subst hz; rfl
    | 1, hz => simp at hz; subst hz; rfl
    | 2, hz => simp at hz; subst hz; rfl
    | j + 3, hz => simp at hz⟩
theorem four_cell (w : World) (x y z v : Value) (t : TypeId) : (w.alloc (.cells #[x, y, z, v] t)).cell? ⟨w.heap.size, 0, none⟩ = some x ∧ (w.alloc (.cells #[x, y, z, v] t)).cell? ⟨w.heap.size, 1, none⟩ = some y ∧ (w.alloc (.cells #[x, y, z, v] t)).cell? ⟨w.heap.size, 2, none⟩ = some z ∧ (w.alloc (.cells #[x, y, z, v] t)).cell? ⟨w.heap.size, 3, none⟩ = some v := by
  refine ⟨?_, ?_, ?_, ?_⟩ <;> (rw [World.cell?_alloc_at _ _ _ _ rfl]; rfl)
theorem keyBy_le (l : List Tg) : (keyBy l).size ≤ 255 := by
  by_cases h : keyErr l = 0
  · unfold keyBy; rw [if_pos h]; show (joinT (srt l)).toArray.size ≤ 255; simpa using (keyErr_zero h).2
  · unfold keyBy; rw [if_neg h]; show (#[] : Array UInt8).size ≤ 255; simp

set_option maxRecDepth 100000 in
set_option maxHeartbeats 2000000 in
theorem tagsSplit_walk (raw : ByteArray) (B : Option Addr) (m d : Nat) (at_ by_ : Int) (w : World) (hr0 : raw.size ≤ 9223372036854775807) (hB : RdI w B m d) (h1 : -9223372036854775808 ≤ at_) (h2 : at_ ≤ 9223372036854775807) (h3 : 0 ≤ by_) (h4 : by_ ≤ 255) :
    Calls Try.prog 5 #[.string raw, .slice B m d, .int .i64 at_, .int .u8 by_] w (Yes w) := by
  by_cases h300 : 300 < raw.size
  · go_enter Try.func5, Try.ntmps5
    go_wp2_with fail
    refine (awake_any _).mono ?_
    rintro e w2 ⟨rfl, hb2⟩
    go_wp2
    go_ret
    exact ⟨rfl, hb2⟩
  · have hraw : raw.size ≤ 300 := by omega
    go_enter Try.func5, Try.ntmps5
    go_wp2_with fail
    refine (list0_any _ _ _ _ hB).mono ?_
    rintro e w1 ⟨A1, n1, c1, l, rfl, hn1, hr1, _, hb1⟩
    clear hB
    go_wp2_with fail
    refine (rkey_any _ _ _ _ _ hr1 (by omega)).mono ?_
    rintro e w2 ⟨rfl, hb2⟩
    have hb3 := below_then hb1 hb2
    have hks := keyBy_le l
    have hke : Hid (keyErr l = keyErr l) := Lib.hid rfl
    clear hr1 hb1 hb2
    generalize keyBy l = K at *
    generalize keyErr l = ke at *
    go_wp2
    rw [run_bytes_of_string w2 9 39 5 K Try.underlying9 Try.underlying39 Try.underlying5]
    have hg1 := grownCap_ge w2 K.size 0 5
    have hg2 := grownCap_le_maxLen w2 K.size 0 5 (by simp only [maxLen]; omega)
    generalize grownCap w2 K.size 0 5 = cap at *
    simp only [Result.andThen]
    rw [Oper.upon_value]
    have R3 := Rd.ofString w2 K cap hg1 hg2 ((bytesRow K cap).size, (bytesRow K cap).size + 1)
    have B3 : Below w.heap.size w (w2.drew.alloc (.cells (bytesRow K cap) 5 ((bytesRow K cap).size, (bytesRow K cap).size + 1))) := hb3.drew.alloc hb3.size _
    clear hb3 hg1 hg2
    generalize w2.drew.alloc (.cells (bytesRow K cap) 5 ((bytesRow K cap).size, (bytesRow K cap).size + 1)) = w3 at *
    by_cases hke0 : ke = 0 ∧ 0 < K.size
    · obtain ⟨rfl, hk0⟩ := hke0
      have hd0 : ((K.size : Int) == 0) = false := beq_false_of_ne (by omega)
      obtain ⟨bb, hbb⟩ : ∃ bb, bb = w2.heap.size := ⟨_, rfl⟩
      rw [← hbb] at R3 ⊢
      obtain ⟨wb, hwb⟩ : ∃ wb, wb = w3 := ⟨_, rfl⟩
      rw [← hwb] at R3 B3 ⊢
      have Rb := R3
      have hnb0 := hk0
      have hnb := hks
      generalize hlb : (K.data.toList.map fun b => (b.toNat : Int)) = lb at Rb
      generalize hnbk : K.size = nb at *
      generalize hcb : cap = cb at *
      clear R3 hbb hwb hlb hcb hk0 hks
      have hown0 : Own (wb.alloc (.cells #[] 5)) wb.heap.size (.slice (some ⟨wb.heap.size, 0, none⟩) 0 0) [] := Own.empty wb
      obtain ⟨x, hx, hX⟩ := mask_any (at_ / 2) 255 (by omega)
      have hX' : bits .and .i64 (at_ / 2) 255 = (x : Int) := hX
      obtain ⟨y, hyy⟩ : ∃ y, y = x % nb := ⟨_, rfl⟩
      have hyl : y < nb := hyy ▸ Nat.mod_lt _ hnb0
      have hT : (x : Int).tmod (nb : Int) = (y : Int) := by rw [hyy]; rfl
      have hT2 : (x : Int) % (nb : Int) = (y : Int) := by rw [hyy]; rfl
      have j0 : (0 : Int) ≤ (y : Int) := Int.natCast_nonneg _
      have j1 : (y : Int) < (nb : Int) := by omega
      have i8 : ¬ (nb : Int) = 0 := by omega
      have hcap := Rb.cap
      have hmx := Rb.max
      clear hX hyy
      go_wp2_with (at_builtin; refine wpList_app rfl (.tmp 40) (.tmp 41) rfl wb.heap.size (.slice (some ⟨wb.heap.size, 0, none⟩) 0 0) [] rfl (some ⟨bb, 0, none⟩) nb cb lb rfl hown0 (Rb.alloc _) (by simp only [List.length_nil]; omega) (by simp) ?_; intro v' w4 hO' hg' hat; clear hat; rw [List.nil_append] at hO'; obtain ⟨Ac, nc, cc, rfl, hrc⟩ := hO'.form; obtain rfl : nc = nb := hrc.len.symm.trans Rb.len; obtain ⟨gc, hgc, hgb, hgl⟩ := hO'.head hnb0; subst hgc; obtain ⟨b1, o1, z1, e1, hz9, hz8, hz7, hz6, hc1⟩ := hO'.reads.at_ hyl; injection e1 with e1; injection e1 with e11 e12; subst e11; subst e12; rw [Nat.zero_add] at hc1; have hf1 := hO'.free y; have hO5 := hO'.store y (z := by_) ⟨h3, h4⟩; have B4 : Below wb.heap.size wb w4 := Below.app ((Below.refl _ wb).alloc (Nat.le_refl _) _) hown0 hg' (by simp) (Nat.le_refl _); clear hown0 hg' hrc hO')
      have B5 : Below wb.heap.size wb (w4.setCell ⟨gc, y, none⟩ (.int .u8 by_)) := B4.setCell (p := ⟨gc, y, none⟩) hgb _
      have Rc5 := hO5.reads
      have Rb5 := Rb.below B5
      obtain ⟨sb, hsb, cvb⟩ := conv_any Rb5
      obtain ⟨sc, hsc, cvc⟩ := conv_any Rc5
      obtain ⟨sd, hsd, cvd⟩ := conv_any (Rb5.take (show nc - 1 ≤ nc by omega))
      have B6 := below_then B3 B5
      clear hgl B4 Rb Rb5 Rc5 hO5 hX' hT hT2 hc1 hf1 hz9 B5 B3
      generalize w4.setCell ⟨gc, y, none⟩ (.int .u8 by_) = w5 at *
      have i2 : (0 : Int) ≤ (nc : Int) - 1 := by omega
      have i3 : (nc : Int) - 1 ≤ (cb : Int) := by omega
      have i4 : IntKind.i64.wrap ((nc : Int) - 1) = (nc : Int) - 1 := IntWalk.i64_in _ (by omega)
      have i5 : ((nc : Int) - 1).toNat = nc - 1 := by omega
      have i6 : nc - 1 ≤ cb := by omega
      have i7 : (1 : Int) ≤ (nc : Int) := by omega
      go_region
      have C0 := four_cell w5 (.string raw) (.string sb) (.string sc) (.string sd) 9
      have P0 : ∀ k, k < 4 → ∃ s : ByteArray, (w5.alloc (.cells #[.string raw, .string sb, .string sc, .string sd] 9)).drew.cell? ⟨w5.heap.size, k, none⟩ = some (.string s) ∧ s.size ≤ 300 := by
        intro k hk
        match k, hk with
        | 0, _ => exact ⟨_, C0.1, hraw⟩
        | 1, _ => exact ⟨_, C0.2.1, by omega⟩
        | 2, _ => exact ⟨_, C0.2.2.1, by omega⟩
        | 3, _ => exact ⟨_, C0.2.2.2, by omega⟩
      have hP := Lib.hid P0
      have hW : Below w.heap.size w (w5.alloc (.cells #[.string raw, .string sb, .string sc, .string sd] 9)).drew := (B6.alloc B6.size _).drew
      clear C0 P0 cvb cvc cvd B6
      go_wp2
      generalize hG : w5.heap.size = G at *
      clear hG
      generalize (w5.alloc (.cells #[.string raw, .string sb, .string sc, .string sd] 9)).drew = W0 at *
      go_loopw [65] (fun i W => ∃ k : Nat, k ≤ 4 ∧ Below W0.heap.size W0 W ∧ i = .int .i64 k) (fun i _ => 4 - (intOf i).toNat)
      case atStart => exact ⟨0, by omega, Below.refl _ _, rfl⟩
      case round =>
        obtain ⟨k, hk, hb, rfl⟩ := hrel
        by_cases hlt : k < 4
        · obtain ⟨u, hc0, hu⟩ := hP.out k hlt
          have hc := (hb.cell (World.block_lt_of_cell? _ _ hc0)).trans hc0
          have hbk := World.block_lt_of_cell? _ _ hc
          clear hc0
          go_wp2_with fail
          refine (split_any _ _ (by omega)).mono ?_
          rintro e w6 ⟨A6, n6, c6, rfl, hn6, hr6, hb6⟩
          have hBa := below_then hb hb6
          clear hb hc hbk hb6
          go_wp2_with fail
          refine (rsplit_any _ _ (by omega)).mono ?_
          rintro e w7 ⟨A7, n7, c7, rfl, hn7, hr7, hb7⟩
          have hr6b := hr6.below hb7
          have hBb := below_then hBa hb7
          clear hr6 hb7 hBa
          go_wp2_with fail
          refine (same_yes _ _ _ _ _ _ _ _ hr6b hr7 (by omega) (by omega)).mono ?_
          rintro e w8 ⟨rfl, j, rfl⟩
          have hBe := below_drewN hBb j
          clear hr6b hr7 hBb
          go_wp2
          go_roundw
          case rel => exact ⟨k + 1, by omega, hBe, by go_num⟩
          case measure => simp [intOf]; omega
        · go_wp2_with fail
          refine (awake_any _).mono ?_
          rintro e w9 ⟨rfl, hb9⟩
          go_wp2
          go_ret
          exact ⟨rfl, below_then (below_then hW hb) hb9⟩
    · by_cases hk1 : ke = 0
      · subst hk1
        have hk0 : ((K.size : Int) == 0) = true := beq_iff_eq.2 (by omega)
        have hk2 : K.size = 0 := by omega
        rw [hk2] at *
        clear R3 hk2
        have hcs := conv_same w3
        have Rb : Rd (w3.alloc (.cells #[.int .u8 1, .int .u8 97, .int .u8 0] 5 (3, 4))) (some ⟨w3.heap.size, 0, none⟩) 3 3 [1, 97, 0] := Rd.three w3
        have B3' : Below w.heap.size w (w3.alloc (.cells #[.int .u8 1, .int .u8 97, .int .u8 0] 5 (3, 4))) := B3.alloc B3.size _
        have hown0 : Own ((w3.alloc (.cells #[.int .u8 1, .int .u8 97, .int .u8 0] 5 (3, 4))).alloc (.cells #[] 5)) (w3.alloc (.cells #[.int .u8 1, .int .u8 97, .int .u8 0] 5 (3, 4))).heap.size (.slice (some ⟨(w3.alloc (.cells #[.int .u8 1, .int .u8 97, .int .u8 0] 5 (3, 4))).heap.size, 0, none⟩) 0 0) [] := Own.empty (w3.alloc (.cells #[.int .u8 1, .int .u8 97, .int .u8 0] 5 (3, 4)))
        have hown1 : Own ((w3.alloc (.cells #[.int .u8 1, .int .u8 97, .int .u8 0] 5 (3, 4))).alloc (.cells #[] 5)) (w3.heap.size + 1) (.slice (some ⟨w3.heap.size + 1, 0, none⟩) 0 0) [] := by simpa using hown0
        obtain ⟨x, hx, hX⟩ := mask_any (at_ / 2) 255 (by omega)
        have hX' : bits .and .i64 (at_ / 2) 255 = (x : Int) := hX
        obtain ⟨y, hyy⟩ : ∃ y, y = x % 3 := ⟨_, rfl⟩
        have hyl : y < 3 := by omega
        have hT : (x : Int).tmod 3 = (y : Int) := by rw [hyy]; rfl
        have hT2 : (x : Int) % 3 = (y : Int) := by rw [hyy]; rfl
        have j0 : (0 : Int) ≤ (y : Int) := Int.natCast_nonneg _
        have j1 : (y : Int) < 3 := by omega
        clear hX hyy hown0
        go_wp2_with (at_builtin; refine wpList_app rfl (.tmp 40) (.tmp 41) rfl (w3.heap.size + 1) (.slice (some ⟨w3.heap.size + 1, 0, none⟩) 0 0) [] rfl (some ⟨w3.heap.size, 0, none⟩) 3 3 [1, 97, 0] rfl hown1 (Rb.alloc _) (by decide) (by simp) ?_; intro v' w4 hO' hg' hat; clear hat; rw [List.nil_append] at hO'; obtain ⟨Ac, nc, cc, rfl, hrc⟩ := hO'.form; obtain rfl : nc = 3 := hrc.len.symm.trans Rb.len; obtain ⟨gc, hgc, hgb, hgl⟩ := hO'.head (by decide); subst hgc; obtain ⟨b1, o1, z1, e1, hz9, hz8, hz7, hz6, hc1⟩ := hO'.reads.at_ hyl; injection e1 with e1; injection e1 with e11 e12; subst e11; subst e12; rw [Nat.zero_add] at hc1; have hf1 := hO'.free y; have hO5 := hO'.store y (z := by_) ⟨h3, h4⟩; have B4 : Below (w3.alloc (.cells #[.int .u8 1, .int .u8 97, .int .u8 0] 5 (3, 4))).heap.size (w3.alloc (.cells #[.int .u8 1, .int .u8 97, .int .u8 0] 5 (3, 4))) w4 := Below.app ((Below.refl _ (w3.alloc (.cells #[.int .u8 1, .int .u8 97, .int .u8 0] 5 (3, 4)))).alloc (Nat.le_refl _) _) hown1 hg' (by simp) (by simp); clear hown1 hg' hrc hO')
        have B5 : Below (w3.alloc (.cells #[.int .u8 1, .int .u8 97, .int .u8 0] 5 (3, 4))).heap.size (w3.alloc (.cells #[.int .u8 1, .int .u8 97, .int .u8 0] 5 (3, 4))) (w4.setCell ⟨gc, y, none⟩ (.int .u8 by_)) := B4.setCell (p := ⟨gc, y, none⟩) (by simp; exact hgb) _
        have Rc5 := hO5.reads
        have Rb5 := Rb.below B5
        obtain ⟨sb, hsb, cvb⟩ := conv_any Rb5
        obtain ⟨sc, hsc, cvc⟩ := conv_any Rc5
        obtain ⟨sd, hsd, cvd⟩ := conv_any (Rb5.take (show 2 ≤ 3 by omega))
        have B6 := below_then B3' B5
        clear hgl B4 Rb Rb5 Rc5 hO5 hX' hT hT2 hc1 hf1 hz9 B5 B3'
        generalize w4.setCell ⟨gc, y, none⟩ (.int .u8 by_) = w5 at *
        go_region
        have C0 := four_cell w5 (.string raw) (.string sb) (.string sc) (.string sd) 9
        have P0 : ∀ k, k < 4 → ∃ s : ByteArray, (w5.alloc (.cells #[.string raw, .string sb, .string sc, .string sd] 9)).drew.cell? ⟨w5.heap.size, k, none⟩ = some (.string s) ∧ s.size ≤ 300 := by
          intro k hk
          match k, hk with
          | 0, _ => exact ⟨_, C0.1, hraw⟩
          | 1, _ => exact ⟨_, C0.2.1, by omega⟩
          | 2, _ => exact ⟨_, C0.2.2.1, by omega⟩
          | 3, _ => exact ⟨_, C0.2.2.2, by omega⟩
        have hP := Lib.hid P0
        have hW : Below w.heap.size w (w5.alloc (.cells #[.string raw, .string sb, .string sc, .string sd] 9)).drew := (B6.alloc B6.size _).drew
        clear C0 P0 cvb cvc cvd B6
        go_wp2
        generalize hG : w5.heap.size = G at *
        clear hG
        generalize (w5.alloc (.cells #[.string raw, .string sb, .string sc, .string sd] 9)).drew = W0 at *
        go_loopw [65] (fun i W => ∃ k : Nat, k ≤ 4 ∧ Below W0.heap.size W0 W ∧ i = .int .i64 k) (fun i _ => 4 - (intOf i).toNat)
        case atStart => exact ⟨0, by omega, Below.refl _ _, rfl⟩
        case round =>
          obtain ⟨k, hk, hb, rfl⟩ := hrel
          by_cases hlt : k < 4
          · obtain ⟨u, hc0, hu⟩ := hP.out k hlt
            have hc := (hb.cell (World.block_lt_of_cell? _ _ hc0)).trans hc0
            have hbk := World.block_lt_of_cell? _ _ hc
            clear hc0
            go_wp2_with fail
            refine (split_any _ _ (by omega)).mono ?_
            rintro e w6 ⟨A6, n6, c6, rfl, hn6, hr6, hb6⟩
            have hBa := below_then hb hb6
            clear hb hc hbk hb6
            go_wp2_with fail
            refine (rsplit_any _ _ (by omega)).mono ?_
            rintro e w7 ⟨A7, n7, c7, rfl, hn7, hr7, hb7⟩
            have hr6b := hr6.below hb7
            have hBb := below_then hBa hb7
            clear hr6 hb7 hBa
            go_wp2_with fail
            refine (same_yes _ _ _ _ _ _ _ _ hr6b hr7 (by omega) (by omega)).mono ?_
            rintro e w8 ⟨rfl, j, rfl⟩
            have hBe := below_drewN hBb j
            clear hr6b hr7 hBb
            go_wp2
            go_roundw
            case rel => exact ⟨k + 1, by omega, hBe, by go_num⟩
            case measure => simp [intOf]; omega
          · go_wp2_with fail
            refine (awake_any _).mono ?_
            rintro e w9 ⟨rfl, hb9⟩
            go_wp2
            go_ret
            exact ⟨rfl, below_then (below_then hW hb) hb9⟩
      · have hv1 : (ke == 0) = false := beq_false_of_ne hk1
        have hv2 : (ke != 0) = true := bne_iff_ne.2 hk1
        clear R3 hk1 hke0
        have hcs := conv_same w3
        have Rb : Rd (w3.alloc (.cells #[.int .u8 1, .int .u8 97, .int .u8 0] 5 (3, 4))) (some ⟨w3.heap.size, 0, none⟩) 3 3 [1, 97, 0] := Rd.three w3
        have B3' : Below w.heap.size w (w3.alloc (.cells #[.int .u8 1, .int .u8 97, .int .u8 0] 5 (3, 4))) := B3.alloc B3.size _
        have hown0 : Own ((w3.alloc (.cells #[.int .u8 1, .int .u8 97, .int .u8 0] 5 (3, 4))).alloc (.cells #[] 5)) (w3.alloc (.cells #[.int .u8 1, .int .u8 97, .int .u8 0] 5 (3, 4))).heap.size (.slice (some ⟨(w3.alloc (.cells #[.int .u8 1, .int .u8 97, .int .u8 0] 5 (3, 4))).heap.size, 0, none⟩) 0 0) [] := Own.empty (w3.alloc (.cells #[.int .u8 1, .int .u8 97, .int .u8 0] 5 (3, 4)))
        have hown1 : Own ((w3.alloc (.cells #[.int .u8 1, .int .u8 97, .int .u8 0] 5 (3, 4))).alloc (.cells #[] 5)) (w3.heap.size + 1) (.slice (some ⟨w3.heap.size + 1, 0, none⟩) 0 0) [] := by simpa using hown0
        obtain ⟨x, hx, hX⟩ := mask_any (at_ / 2) 255 (by omega)
        have hX' : bits .and .i64 (at_ / 2) 255 = (x : Int) := hX
        obtain ⟨y, hyy⟩ : ∃ y, y = x % 3 := ⟨_, rfl⟩
        have hyl : y < 3 := by omega
        have hT : (x : Int).tmod 3 = (y : Int) := by rw [hyy]; rfl
        have hT2 : (x : Int) % 3 = (y : Int) := by rw [hyy]; rfl
        have j0 : (0 : Int) ≤ (y : Int) := Int.natCast_nonneg _
        have j1 : (y : Int) < 3 := by omega
        clear hX hyy hown0
        go_wp2_with (at_builtin; refine wpList_app rfl (.tmp 40) (.tmp 41) rfl (w3.heap.size + 1) (.slice (some ⟨w3.heap.size + 1, 0, none⟩) 0 0) [] rfl (some ⟨w3.heap.size, 0, none⟩) 3 3 [1, 97, 0] rfl hown1 (Rb.alloc _) (by decide) (by simp) ?_; intro v' w4 hO' hg' hat; clear hat; rw [List.nil_append] at hO'; obtain ⟨Ac, nc, cc, rfl, hrc⟩ := hO'.form; obtain rfl : nc = 3 := hrc.len.symm.trans Rb.len; obtain ⟨gc, hgc, hgb, hgl⟩ := hO'.head (by decide); subst hgc; obtain ⟨b1, o1, z1, e1, hz9, hz8, hz7, hz6, hc1⟩ := hO'.reads.at_ hyl; injection e1 with e1; injection e1 with e11 e12; subst e11; subst e12; rw [Nat.zero_add] at hc1; have hf1 := hO'.free y; have hO5 := hO'.store y (z := by_) ⟨h3, h4⟩; have B4 : Below (w3.alloc (.cells #[.int .u8 1, .int .u8 97, .int .u8 0] 5 (3, 4))).heap.size (w3.alloc (.cells #[.int .u8 1, .int .u8 97, .int .u8 0] 5 (3, 4))) w4 := Below.app ((Below.refl _ (w3.alloc (.cells #[.int .u8 1, .int .u8 97, .int .u8 0] 5 (3, 4)))).alloc (Nat.le_refl _) _) hown1 hg' (by simp) (by simp); clear hown1 hg' hrc hO')
        have B5 : Below (w3.alloc (.cells #[.int .u8 1, .int .u8 97, .int .u8 0] 5 (3, 4))).heap.size (w3.alloc (.cells #[.int .u8 1, .int .u8 97, .int .u8 0] 5 (3, 4))) (w4.setCell ⟨gc, y, none⟩ (.int .u8 by_)) := B4.setCell (p := ⟨gc, y, none⟩) (by simp; exact hgb) _
        have Rc5 := hO5.reads
        have Rb5 := Rb.below B5
        obtain ⟨sb, hsb, cvb⟩ := conv_any Rb5
        obtain ⟨sc, hsc, cvc⟩ := conv_any Rc5
        obtain ⟨sd, hsd, cvd⟩ := conv_any (Rb5.take (show 2 ≤ 3 by omega))
        have B6 := below_then B3' B5
        clear hgl B4 Rb Rb5 Rc5 hO5 hX' hT hT2 hc1 hf1 hz9 B5 B3'
        generalize w4.setCell ⟨gc, y, none⟩ (.int .u8 by_) = w5 at *
        go_region
        have C0 := four_cell w5 (.string raw) (.string sb) (.string sc) (.string sd) 9
        have P0 : ∀ k, k < 4 → ∃ s : ByteArray, (w5.alloc (.cells #[.string raw, .string sb, .string sc, .string sd] 9)).drew.cell? ⟨w5.heap.size, k, none⟩ = some (.string s) ∧ s.size ≤ 300 := by
          intro k hk
          match k, hk with
          | 0, _ => exact ⟨_, C0.1, hraw⟩
          | 1, _ => exact ⟨_, C0.2.1, by omega⟩
          | 2, _ => exact ⟨_, C0.2.2.1, by omega⟩
          | 3, _ => exact ⟨_, C0.2.2.2, by omega⟩
        have hP := Lib.hid P0
        have hW : Below w.heap.size w (w5.alloc (.cells #[.string raw, .string sb, .string sc, .string sd] 9)).drew := (B6.alloc B6.size _).drew
        clear C0 P0 cvb cvc cvd B6
        go_wp2
        generalize hG : w5.heap.size = G at *
        clear hG
        generalize (w5.alloc (.cells #[.string raw, .string sb, .string sc, .string sd] 9)).drew = W0 at *
        go_loopw [65] (fun i W => ∃ k : Nat, k ≤ 4 ∧ Below W0.heap.size W0 W ∧ i = .int .i64 k) (fun i _ => 4 - (intOf i).toNat)
        case atStart => exact ⟨0, by omega, Below.refl _ _, rfl⟩
        case round =>
          obtain ⟨k, hk, hb, rfl⟩ := hrel
          by_cases hlt : k < 4
          · obtain ⟨u, hc0, hu⟩ := hP.out k hlt
            have hc := (hb.cell (World.block_lt_of_cell? _ _ hc0)).trans hc0
            have hbk := World.block_lt_of_cell? _ _ hc
            clear hc0
            go_wp2_with fail
            refine (split_any _ _ (by omega)).mono ?_
            rintro e w6 ⟨A6, n6, c6, rfl, hn6, hr6, hb6⟩
            have hBa := below_then hb hb6
            clear hb hc hbk hb6
            go_wp2_with fail
            refine (rsplit_any _ _ (by omega)).mono ?_
            rintro e w7 ⟨A7, n7, c7, rfl, hn7, hr7, hb7⟩
            have hr6b := hr6.below hb7
            have hBb := below_then hBa hb7
            clear hr6 hb7 hBa
            go_wp2_with fail
            refine (same_yes _ _ _ _ _ _ _ _ hr6b hr7 (by omega) (by omega)).mono ?_
            rintro e w8 ⟨rfl, j, rfl⟩
            have hBe := below_drewN hBb j
            clear hr6b hr7 hBb
            go_wp2
            go_roundw
            case rel => exact ⟨k + 1, by omega, hBe, by go_num⟩
            case measure => simp [intOf]; omega
          · go_wp2_with fail
            refine (awake_any _).mono ?_
            rintro e w9 ⟨rfl, hb9⟩
            go_wp2
            go_ret
            exact ⟨rfl, below_then (below_then hW hb) hb9⟩
end Go.Proofs.Ytnalgjchdenbpaa
