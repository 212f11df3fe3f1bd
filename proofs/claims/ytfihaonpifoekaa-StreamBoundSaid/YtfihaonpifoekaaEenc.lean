/- event.Encode and its twin: the bytes of an event, or the error. Conditions: none beyond those typed. -/
import Derived.Test.YtfihaonpifoekaaEtext
import Derived.Test.YtfihaonpifoekaaTwords
import Derived.Deep.RegionHeld3
namespace Go.Proofs.Ytfihaonpifoekaa
open Go.ChangeShapes Go.WideShapes Go.ChangeAt Go.RowKit
set_option linter.unusedVariables false
set_option linter.unusedSimpArgs false
set_option maxRecDepth 100000

/-- The box of an event in block g. -/
def EBox (w : World) (g : Nat) (A : Option Addr) (n c : Nat) (t x : Int) : Prop := w.heap[g]? = some (.cells #[.slice A n c, .int .i64 t, .int .u64 x] 66 (0, 0))
section
variable {w w' : World} {g : Nat} {A : Option Addr} {n c : Nat} {t x : Int}
theorem EBox.new (w : World) (A : Option Addr) (n c : Nat) (t x : Int) : EBox (w.alloc (.cells #[.slice A n c, .int .i64 t, .int .u64 x] 66)) w.heap.size A n c t x := heap_alloc_new w _
theorem EBox.c0 (h : EBox w g A n c t x) : w.cell? ⟨g, 0, none⟩ = some (.slice A n c) := by rw [Lib.cell_of_heap h]; rfl
theorem EBox.c1 (h : EBox w g A n c t x) : w.cell? ⟨g, 1, none⟩ = some (.int .i64 t) := by rw [Lib.cell_of_heap h]; rfl
theorem EBox.c2 (h : EBox w g A n c t x) : w.cell? ⟨g, 2, none⟩ = some (.int .u64 x) := by rw [Lib.cell_of_heap h]; rfl
theorem EBox.lt (h : EBox w g A n c t x) : g < w.heap.size := World.block_lt_of_cell? _ ⟨g, 0, none⟩ h.c0
theorem EBox.far (h : EBox w g A n c t x) (hb : w'.heap[g]? = w.heap[g]?) : EBox w' g A n c t x := hb.trans h
theorem EBox.below (h : EBox w g A n c t x) (hb : Below w.heap.size w w') : EBox w' g A n c t x := h.far (hb.block g h.lt)
theorem EBox.frozen (h : EBox w g A n c t x) (i : Nat) : w.frozen? ⟨g, i, none⟩ = false := by
  have : w.heap[g]? = _ := h
  simp [World.frozen?, this]
end

def timeOk (t : Int) : Bool := decide (0 ≤ t ∧ t ≤ 1099511627776)
theorem timeOk_yes {t : Int} (h : ¬ (t < 0 ∨ 1099511627776 < t)) : timeOk t = true := decide_eq_true (by omega)
theorem timeOk_no {t : Int} (h : t < 0 ∨ 1099511627776 < t) : timeOk t = false := decide_eq_false (by omega)
theorem Box.below {w w' : World} {g : Nat} {p q : ByteArray} (h : Box w g p q) (hb : Below w.heap.size w w') : Box w' g p q := (hb.block g (World.block_lt_of_cell? _ ⟨g, 0, none⟩ h.c0)).trans h
/-- What encoding an event gives back. -/
def EncOut (l : List Tg) (t x : Int) (w : World) (e : Ending) (w' : World) : Prop :=
  ∃ A n c, e = .returned (.tuple #[.slice A n c, .int .i64 (encE l t)]) ∧ Rd w' A n c (encB l t x) ∧ Below w.heap.size w w'
theorem EncOut.err {l : List Tg} {t x z : Int} {w w' : World} (h : encE l t = z) (hz : z ≠ 0) (hb : Below w.heap.size w w') : EncOut l t x w (.returned (.tuple #[.slice none 0 0, .int .i64 z])) w' := by
  subst h
  exact ⟨none, 0, 0, rfl, by rw [encB_no hz]; exact Rd.nil _ _ _ (by simp [maxLen]), hb⟩
theorem EncOut.ok {l : List Tg} {t x : Int} {w w' : World} {v : Value} {base : Nat} (h : encE l t = 0) (hO : Own w' base v (evB l t x)) (hb : Below w.heap.size w w') : EncOut l t x w (.returned (.tuple #[v, .int .i64 0])) w' := by
  obtain ⟨A, n, c, rfl, hr⟩ := hO.form
  exact ⟨A, n, c, by rw [h], by rw [encB_yes h]; exact hr, hb⟩
def head3 (l : List Tg) (t x : Int) : List Int := enc t.toNat ++ enc x.toNat ++ enc l.length
theorem head3_len (l : List Tg) (t x : Int) (ht : 0 ≤ t ∧ t ≤ 1099511627776) (hx : 0 ≤ x ∧ x ≤ 18446744073709551615) (hl : l.length ≤ 1000) : (head3 l t x).length ≤ 30 := by
  have h1 := enc_ten (n := t.toNat) (by omega)
  have h2 := enc_ten (n := x.toNat) (by omega)
  have h3 := enc_ten (n := l.length) (by omega)
  unfold head3
  rw [List.length_append, List.length_append]; omega
theorem head3_next {l : List Tg} {t x : Int} {k : Nat} {p q : ByteArray} (h : l[k]? = some (p, q)) :
    head3 l t x ++ tagsB (l.take k) ++ (enc p.size ++ sB p) ++ (enc q.size ++ sB q) = head3 l t x ++ tagsB (l.take (k + 1)) := by
  rw [tagsB_snoc h]; simp only [List.append_assoc]
theorem head3_all {l : List Tg} {t x : Int} {k : Nat} (h : l.length ≤ k) : head3 l t x ++ tagsB (l.take k) = evB l t x := by
  rw [List.take_of_length_le h]; rfl
theorem tagsB_take_len {l : List Tg} (k : Nat) (h : ∀ x ∈ l, x.1.size ≤ 4096 ∧ x.2.size ≤ 4096) (hl : l.length ≤ 1000) : (tagsB (l.take k)).length ≤ 8212000 := by
  have h1 := tagsB_len (l.take k) fun x hx => h x (List.mem_of_mem_take hx)
  have h2 : (l.take k).length ≤ l.length := by rw [List.length_take]; omega
  omega

theorem fit3 {l e : List Int} {m : Nat} {s : ByteArray} (h : l.length = m) (he : e.length ≤ 10) (hb : m + 10 + s.size ≤ 140737488355328) : (l ++ e).length + s.size ≤ 140737488355328 := by
  rw [List.length_append]; omega
theorem tagsB_any_len {l : List Tg} {k : Nat} (h : (l.take k).any longT = false) (hl : l.length ≤ 1000) : (tagsB (l.take k)).length ≤ 8212000 := by
  have h1 := tagsB_len (l.take k) (any_sizes h)
  have h2 : (l.take k).length ≤ l.length := by rw [List.length_take]; omega
  omega
set_option maxHeartbeats 1000000 in
theorem revent_any (A : Option Addr) (n c : Nat) (l : List Tg) (t x : Int) (w : World) (hR : RdT w A n c l) (hn : n ≤ 1000) (hx : 0 ≤ x ∧ x ≤ 18446744073709551615) :
    Calls Try.prog 32 #[.agg #[.slice A n c, .int .i64 t, .int .u64 x]] w (EncOut l t x w) := by
  have hln := hR.len
  have hB0 : Below w.heap.size w (w.alloc (.cells #[.slice A n c, .int .i64 t, .int .u64 x] 66)) := (Below.refl _ w).alloc (Nat.le_refl _) _
  by_cases hta : t < 0
  · have HE := Lib.hid (encE_time (l := l) (.inl hta))
    go_enter Try.func32, Try.ntmps32
    go_wp2
    go_ret2
    exact EncOut.err HE.out (by decide) hB0
  by_cases htb : 1099511627776 < t
  · have HE := Lib.hid (encE_time (l := l) (.inr htb))
    go_enter Try.func32, Try.ntmps32
    go_wp2
    go_ret2
    exact EncOut.err HE.out (by decide) hB0
  have ht : ¬ (t < 0 ∨ 1099511627776 < t) := by omega
  by_cases h8 : 8 < n
  · have HE := Lib.hid (encE_many (l := l) ht (by omega))
    clear ht hln
    go_enter Try.func32, Try.ntmps32
    go_wp2
    go_ret2
    exact EncOut.err HE.out (by decide) hB0
  have HL := Lib.hid (@encE_long l t ht (by omega))
  have HK := Lib.hid (@encE_ok l t ht (by omega))
  have HLN := Lib.hid hln
  have hn8 : n ≤ 8 := by omega
  have ht0 : 0 ≤ t := by omega
  have ht1 : t ≤ 1099511627776 := by omega
  have hlen3 := head3_len l t x ⟨ht0, ht1⟩ hx (by omega)
  obtain ⟨hx0, hx1⟩ := hx
  have hw := wraps_u64 t ht0 (by omega)
  have hw2 := wraps_u64 (n : Int) (by omega) (by omega)
  have hE1 := EBox.new w A n c t x
  clear ht hln
  go_enter Try.func32, Try.ntmps32
  go_wp2_with fail
  refine (rappend_own _ _ _ [] _ _ (Rd.nil _ _ _ (by simp [maxLen])) ⟨ht0, by omega⟩ (by omega)).mono ?_
  rintro e w2 ⟨v2, rfl, hO2, hb2⟩
  obtain ⟨A2, n2, c2', rfl, hr2⟩ := hO2.form
  have hE2 := hE1.below hb2
  have hB2 := below_then hB0 hb2
  have hl2 := hr2.len
  clear hO2 hE1
  have c0 := hE2.c0
  have c1 := hE2.c1
  have c2 := hE2.c2
  rw [List.nil_append] at hr2 hl2
  have h10 := enc_ten (n := t.toNat) (by omega)
  go_wp2_with fail
  refine (rappend_own _ _ _ _ _ _ hr2 ⟨hx0, hx1⟩ (by omega)).mono ?_
  rintro e w3 ⟨v3, rfl, hO3, hb3⟩
  obtain ⟨A3, n3, c3', rfl, hr3⟩ := hO3.form
  have hE3 := hE2.below hb3
  have hB3 := below_then hB2 hb3
  have hl3 := hr3.len
  clear c0 c1 c2 hO3 hE2 hr2
  have c0 := hE3.c0
  have c1 := hE3.c1
  have c2 := hE3.c2
  have h11 := enc_ten (n := x.toNat) (by omega)
  rw [List.length_append] at hl3
  go_wp2_with fail
  refine (rappend_own _ _ _ _ _ _ hr3 ⟨by omega, by omega⟩ (by omega)).mono ?_
  rintro e w4 ⟨v4, rfl, hO4, hb4⟩
  rw [Int.toNat_natCast, ← HLN.out] at hO4
  have hE4 := hE3.below hb4
  have hB4 := below_then hB3 hb4
  have hO5 : Own w4 w.heap.size v4 (head3 l t x) := hO4.weaken hB3.size
  clear c0 c1 c2 hO4 hE3 hr3 hl3 hl2 h10 h11 hb2 hb3 hb4 hB2 hB3
  have c0 := hE4.c0
  have hR4 := hR.below hB4
  go_wp2
  go_loopw [4, 36] (fun v i W => ∃ k : Nat, k ≤ n ∧ (l.take k).any longT = false ∧ Own W w.heap.size v (head3 l t x ++ tagsB (l.take k)) ∧ Below w.heap.size w W ∧ i = .int .i64 k) (fun _ i _ => n - (intOf i).toNat)
  case atStart => exact ⟨0, by omega, by simp, by simpa [tagsB] using hO5, hB4, rfl⟩
  case round =>
    clear hO5 hB4 c0 hE4 hR4 hB0
    obtain ⟨k, hk, hA, hO, hb, rfl⟩ := hrel
    have hRw := hR.below hb
    have hz := hb.size
    by_cases hlt : k < n
    · obtain ⟨b, o, p, q, rfl, hg, hp, hq, hbl, h1, h2⟩ := hRw.at_ hlt
      by_cases hp4 : p.size ≤ 4096
      · by_cases hq4 : q.size ≤ 4096
        · have HN := Lib.hid (head3_next (t := t) (x := x) hg)
          have HA := Lib.hid hA
          have HA' := Lib.hid (any_next hA hg hp4 hq4)
          have hl1 := tagsB_any_len HA.out (by have := HLN.out; omega)
          obtain ⟨A1, n1, c1', rfl, hr1⟩ := hO.form
          have hln1 := hr1.len
          rw [List.length_append] at hln1
          have hX1 := Box.new wr p q
          have hb1 := hb.alloc hz (.cells #[.string p, .string q] 73)
          have hr2 := hr1.alloc (.cells #[.string p, .string q] 73)
          have hz1 := hb1.size
          go_wp2
          clear hg hO hr1 h1 h2 hbl hRw
          obtain ⟨g, hg⟩ : ∃ g, g = wr.heap.size := ⟨_, rfl⟩
          rw [← hg] at hX1 ⊢
          generalize wr.alloc (.cells #[.string p, .string q] 73) = W1 at *
          have k0 := hX1.c0
          have k1 := hX1.c1
          have hgl := World.block_lt_of_cell? _ ⟨g, 0, none⟩ k0
          have hwp := wraps_u64 (p.size : Int) (by omega) (by omega)
          have hwq := wraps_u64 (q.size : Int) (by omega) (by omega)
          have h10p := enc_ten (n := p.size) (by omega)
          have bp1 : 0 ≤ (p.size : Int) ∧ (p.size : Int) ≤ 18446744073709551615 := by omega
          have bp2 : n1 + 10 ≤ 140737488355328 := by omega
          have bp3 : n1 + 10 + p.size ≤ 140737488355328 := by omega
          have bp4 := hr2.len
          clear hg
          go_region_held3 (fun w' => w'.cell? ⟨g, 0, none⟩ = some (.string p)) (first | exact k0 | assumption) (first | (go_at_call 16; refine (rappend_own _ _ _ _ _ _ hr2.drew bp1 bp2).mono ?_; rintro e w5 ⟨v5, rfl, hO5, hb5⟩; rw [Int.toNat_natCast] at hO5; have k5 := (hb5.cell (p := ⟨g, 0, none⟩) hgl).trans k0) | (refine step_appS rfl (.tmp 55) (.tmp 57) rfl W1.heap.size _ _ rfl p rfl hO5 (fit3 bp4 h10p bp3) hb5.size ?_; intro v6 w6 hO6 hg6; have k6 := ((Below.app hb5 hO5 hg6 hb5.size (Nat.le_refl _)).cell (p := ⟨g, 0, none⟩) hgl).trans k0))
          have hB6 : Below W1.heap.size W1 w6 := Below.app (below_from hb5) hO5 hg6 hb5.size (Nat.le_refl _)
          clear k6
          have k6 := (hB6.cell (p := ⟨g, 1, none⟩) hgl).trans k1
          have hgl6 := World.block_lt_of_cell? _ ⟨g, 1, none⟩ k6
          have hb7 := below_then hb1 hB6
          obtain ⟨A3, n3, c3', rfl, hr3⟩ := hO6.form
          have hln3 := hr3.len
          rw [List.length_append, List.length_append, List.length_append, sB_len] at hln3
          have h10q := enc_ten (n := q.size) (by omega)
          have bq1 : 0 ≤ (q.size : Int) ∧ (q.size : Int) ≤ 18446744073709551615 := by omega
          have bq2 : n3 + 10 ≤ 140737488355328 := by omega
          have bq3 : n3 + 10 + q.size ≤ 140737488355328 := by omega
          have bq4 := hr3.len
          clear k0 k1 hO6 hg6 hO5 hb5 k5 hB6 hb1 hX1 hr2
          go_wp2
          go_region_held3 (fun w' => w'.cell? ⟨g, 1, none⟩ = some (.string q)) (first | exact k6 | assumption) (first | (go_at_call 16; refine (rappend_own _ _ _ _ _ _ hr3.drew bq1 bq2).mono ?_; rintro e w7 ⟨v7, rfl, hO7, hb7'⟩; rw [Int.toNat_natCast] at hO7; have k7 := (hb7'.cell (p := ⟨g, 1, none⟩) hgl6).trans k6) | (refine step_appS rfl (.tmp 64) (.tmp 66) rfl w6.heap.size _ _ rfl q rfl hO7 (fit3 bq4 h10q bq3) hb7'.size ?_; intro v8 w8 hO8 hg8; have k8 := ((Below.app hb7' hO7 hg8 hb7'.size (Nat.le_refl _)).cell (p := ⟨g, 1, none⟩) hgl6).trans k6))
          have hB8 : Below w6.heap.size w6 w8 := Below.app (below_from hb7') hO7 hg8 hb7'.size (Nat.le_refl _)
          have hb9 := below_then hb7 hB8
          rw [show ∀ a b c d e f : List Int, a ++ b ++ c ++ d ++ e ++ f = a ++ b ++ (c ++ d) ++ (e ++ f) from fun a b c d e f => by simp, HN.out] at hO8
          have hO9 := hO8.weaken hb7.size
          clear hO7 hb7' k7 k8 hg8 hO8 hB8 hb7 k6
          go_wp2
          go_roundw
          case rel => exact ⟨k + 1, by omega, HA'.out, hO9, hb9, by go_num⟩
          case measure => simp [intOf]; omega
        · have HN := Lib.hid (HL.out (any_hit hg (.inr (by omega))))
          clear hg hA hO
          go_wp2
          go_ret2
          exact EncOut.err HN.out (by decide) (hb.alloc hb.size _)
      · have HN := Lib.hid (HL.out (any_hit hg (.inl (by omega))))
        clear hg hA hO
        go_wp2
        go_ret2
        exact EncOut.err HN.out (by decide) (hb.alloc hb.size _)
    · rw [head3_all (by have := HLN.out; omega)] at hO
      have HO := Lib.hid hO
      have HN := Lib.hid (HK.out (any_take hA (by have := HLN.out; omega)))
      clear hO hA
      go_wp2
      go_ret2
      exact EncOut.ok HN.out HO.out hb
end Go.Proofs.Ytfihaonpifoekaa
