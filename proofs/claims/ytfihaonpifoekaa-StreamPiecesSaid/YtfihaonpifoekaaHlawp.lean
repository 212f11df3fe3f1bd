/- heavykeyslaw06.StreamPieces returns true, whatever the input. Conditions: none beyond those typed. -/
import Derived.Test.YtfihaonpifoekaaHlaws
namespace Go.Proofs.Ytfihaonpifoekaa
open Go.ChangeShapes Go.WideShapes Go.ChangeAt Go.RowKit
set_option linter.unusedVariables false
set_option linter.unusedSimpArgs false
set_option maxRecDepth 100000

/-- Block g holds slices that read, in an elder world, as these. -/
def Pcs (w0 W : World) (g : Nat) (L : List (List Int)) : Prop := ∀ k l, L[k]? = some l → ∃ A n c, W.cell? ⟨g, k, none⟩ = some (.slice A n c) ∧ Rd w0 A n c l
theorem Pcs.grown {w0 W W' : World} {g : Nat} {L : List (List Int)} {row : Option Nat} (h : Pcs w0 W g L) (hg : W.grownBy W' row) (hr : some g ≠ row) : Pcs w0 W' g L := fun k l hk => by
  obtain ⟨A, n, c, h0, h1⟩ := h k l hk
  exact ⟨A, n, c, (World.cell?_of_block (hg.block g (World.block_lt_of_cell? _ _ h0) hr)).trans h0, h1⟩
theorem Pcs.three {w0 W : World} {A0 A1 A2 : Option Addr} {n0 n1 n2 c0 c1 c2 : Nat} {l0 l1 l2 : List Int} {t : TypeId} (h0 : Rd w0 A0 n0 c0 l0) (h1 : Rd w0 A1 n1 c1 l1) (h2 : Rd w0 A2 n2 c2 l2) :
    Pcs w0 (W.alloc (.cells #[.slice A0 n0 c0, .slice A1 n1 c1, .slice A2 n2 c2] t)) W.heap.size [l0, l1, l2] := fun k l hk => by
  match k, hk with
  | 0, hk => simp at hk; subst hk; exact ⟨A0, n0, c0, by rw [World.cell?_alloc_at _ _ _ _ rfl]; rfl, h0⟩
  | 1, hk => simp at hk; subst hk; exact ⟨A1, n1, c1, by rw [World.cell?_alloc_at _ _ _ _ rfl]; rfl, h1⟩
  | 2, hk => simp at hk; subst hk; exact ⟨A2, n2, c2, by rw [World.cell?_alloc_at _ _ _ _ rfl]; rfl, h2⟩
  | k + 3, hk => simp at hk
/-- b[k:] of whatever b, as the model slices. -/
theorem Rd.dropM {w : World} {A : Option Addr} {n c : Nat} {l : List Int} (h : Rd w A n c l) {k : Nat} (hk : k ≤ n) : Rd w (if c = k then A else A.map fun x => x.add k) (n - k) (c - k) (l.drop k) := by
  by_cases hn : n - k = 0
  · have hl := h.len
    have hm := h.max
    rw [hn, List.drop_eq_nil_of_le (by omega)]
    exact Rd.nil _ _ _ (by simp only [maxLen]; omega)
  · obtain ⟨b, o, rfl⟩ := h.someB (by omega)
    have hcap := h.cap
    rw [if_neg (by omega), Option.map_some, Addr.add_lit]
    exact h.dropAt hk
/-- What stands after i pieces: the stream's box is g. -/
def PcR (w0 w9 : World) (g : Nat) (L : List (List Int)) (i : Nat) (vC : Value) (W : World) : Prop :=
  ∃ (S : St) (C : List Ck) (A : Option Addr) (n c : Nat) (R : List RawC), feed st0 (L.take i).flatten = (S, C) ∧ SBox W g A n c S.2.1 S.2.2 ∧ Rd W A n c S.1 ∧ OwnC W w9.heap.size vC R ∧
    Stays W w9.heap.size W.heap.size vC.ownBlock R C ∧ w9.grownBy W (some g)
theorem flatten_snoc {L : List (List Int)} {i : Nat} {l : List Int} (h : L[i]? = some l) : (L.take (i + 1)).flatten = (L.take i).flatten ++ l := by
  rw [List.take_add_one, h]; simp
theorem byt_flatten {L : List (List Int)} (h : ∀ l ∈ L, Byt l) (i : Nat) : Byt (L.take i).flatten := fun z hz => by
  obtain ⟨l, hl, hz⟩ := List.mem_flatten.1 hz
  exact h l (List.mem_of_mem_take hl) z hz
theorem ck_len {l : List Int} {s : St} : (feed s l).2.length ≤ l.length := by
  induction l generalizing s with
  | nil => simp [feed]
  | cons z r ih =>
    have h1 : (stepS s z).2.length ≤ 1 := by
      unfold stepS
      split
      · simp
      · split
        · simp
        · unfold stepB
          split
          · simp
          · split
            · simp
            · split <;> simp
    rw [feed, List.length_append, List.length_cons]
    have := ih (s := (stepS s z).1)
    omega
theorem flat_le {L : List (List Int)} {b : Nat} (h : ∀ l ∈ L, l.length ≤ b) : ∀ e, (L.take e).flatten.length ≤ e * b
  | 0 => by simp
  | e + 1 => by
    have ih := flat_le h e
    rcases Nat.lt_or_ge e L.length with he | he
    · have hl : L[e]? = some L[e] := List.getElem?_eq_getElem he
      rw [flatten_snoc hl, List.length_append]
      have := h _ (List.getElem_mem he)
      rw [Nat.add_mul]; omega
    · rw [List.take_of_length_le (by omega)] at ih ⊢
      rw [Nat.add_mul]; omega
theorem Own.apartC {w : World} {bb hi : Nat} {v vC : Value} {l : List Int} (h : Own w hi v l) (hc : ∀ k, vC.ownBlock = some k → bb ≤ k ∧ k < hi) : v.ownBlock = none ∨ v.ownBlock ≠ vC.ownBlock := by
  cases hv : v.ownBlock with
  | none => exact .inl rfl
  | some k => exact .inr fun e => by have h1 := hc k e.symm; have h2 := h.lt k hv; omega
theorem _root_.Go.World.grownBy.trans2 {w w' w2 : World} {r row : Option Nat} (h : w.grownBy w' r) (hg : w'.grownBy w2 row) (hr : ∀ k, row = some k → w.heap.size ≤ k) : w.grownBy w2 r :=
  ⟨hg.os.trans h.os, hg.tape.trans h.tape, hg.output.trans h.output, Nat.le_trans h.size hg.size, fun k hk hne => (hg.block k (Nat.lt_of_lt_of_le hk h.size) (fun e => by have := hr k e.symm; omega)).trans (h.block k hk hne)⟩
set_option maxHeartbeats 2000000 in
theorem streamPieces_walk (B : Option Addr) (m d : Nat) (A : Option Addr) (k c : Nat) (u v : Int) (w : World) (hB : RdI w B m d) (hA : Arg w A k c) (hu0 : 0 ≤ u) (hu1 : u ≤ 65535) (hv0 : 0 ≤ v) (hv1 : v ≤ 65535) :
    Calls Try.prog 4 #[.slice B m d, .slice A k c, .int .u16 u, .int .u16 v] w (Yes w) := by
  obtain ⟨hk1, hk2, la, hRa⟩ := hA
  have hB' : RdI w.drew B m d := hB
  obtain ⟨j, hj⟩ : ∃ j : Nat, min (k : Int) 100 = j := ⟨(min (k : Int) 100).toNat, by omega⟩
  have hjk : j ≤ k := by omega
  have hj3 : j ≤ 100 := by omega
  have hjki : (j : Int) ≤ (k : Int) := by omega
  have hjci : (j : Int) ≤ (c : Int) := by omega
  have hRj := hRa.take hjk
  go_enter Try.func4, Try.ntmps4
  go_wp2
  go_region_held3 (fun _ => True) (trivial) (first
    | (go_at_call 8; refine (bytes_any B m d _ hB').mono ?_; rintro e w5 ⟨v5, l5, rfl, O5, hl5, hb5⟩; have hb5' := below_from hb5; have R5 := hRj.below hb5'; have z5 : w.heap.size ≤ w5.heap.size := hb5.size; have hlj : l5.length + j ≤ 140737488355328 := (by omega))
    | (refine step_app rfl (.tmp 20) (.tmp 25) rfl _ v5 l5 rfl A j c (la.take j) rfl O5 R5 hlj z5 ?_; intro v6 w6 O6 G6 _; obtain ⟨A6, n6, c6, e6, r6⟩ := O6.form; subst e6; have hn6 := r6.len; have hb6 := Below.app hb5' O5 G6 z5 (Nat.le_refl _)))
  all_goals
    have hb7 : Below w.heap.size w w6 := hb6
    have hnl : n6 ≤ 30100 := by rw [← hn6, List.length_append, List.length_take]; omega
    clear hb6 O6 G6 O5 R5 hb5 hb5'
    generalize l5 ++ la.take j = bl at *
    obtain ⟨i, hi⟩ : ∃ i : Nat, u % ((n6 : Int) + 1) = i := ⟨(u % ((n6 : Int) + 1)).toNat, by have := Int.emod_nonneg u (show (n6 : Int) + 1 ≠ 0 by omega); omega⟩
    have hi2 : u.tmod ((n6 : Int) + 1) = i := by rw [Int.tmod_eq_emod_of_nonneg hu0]; exact hi
    have hin : i ≤ n6 := by have := Int.emod_lt_of_pos u (show (0 : Int) < (n6 : Int) + 1 by omega); omega
    obtain ⟨p, hp⟩ : ∃ p : Nat, v % ((n6 : Int) - i + 1) = p := ⟨(v % ((n6 : Int) - i + 1)).toNat, by have := Int.emod_nonneg v (show (n6 : Int) - i + 1 ≠ 0 by omega); omega⟩
    have hp2 : v.tmod ((n6 : Int) - i + 1) = p := by rw [Int.tmod_eq_emod_of_nonneg hv0]; exact hp
    have hpn : i + p ≤ n6 := by have := Int.emod_lt_of_pos v (show (0 : Int) < (n6 : Int) - i + 1 by omega); omega
    have z1 : ¬ (n6 : Int) + 1 = 0 := by omega
    have z2 : ((n6 : Int) + 1 == 0) = false := beq_false_of_ne z1
    have z3 : ¬ (n6 : Int) - i + 1 = 0 := by omega
    have z4 : ((n6 : Int) - i + 1 == 0) = false := beq_false_of_ne z3
    go_wp2_with fail
    have hby := r6.bytes
    have hso := feed_sound bl sound0 hby
    refine (feed_any none 0 0 st0 A6 n6 c6 bl w6 sound0 (Rd.nil _ _ _ (by simp [maxLen])) r6 (fun _ => by omega)).mono ?_
    intro e w7 h7
    obtain ⟨pq, hpq⟩ : ∃ pq, pq = feed st0 bl := ⟨_, rfl⟩
    rw [← hpq] at h7 hso
    obtain ⟨⟨bq, kq, brq⟩, Cq⟩ := pq
    obtain ⟨A7, n7, c7, C7, m7, d7, e7, r7, q7, b7⟩ := h7.rdC
    subst e7
    have hb8 := below_then hb7 b7
    have r68 := r6.below b7
    have hcap6 := r6.cap
    have hmx6 := r6.max
    have i1 : (i : Int) ≤ (n6 : Int) := by omega
    have i2 : (i : Int) ≤ (c6 : Int) := by omega
    have i3 : (i : Int) ≤ (i : Int) + (p : Int) := by omega
    have i4 : (i : Int) + (p : Int) ≤ (c6 : Int) := by omega
    have i5 : (i : Int) + (p : Int) ≤ (n6 : Int) := by omega
    have i6 : (n6 : Int) ≤ (c6 : Int) := by omega
    clear h7 b7 r6 hb7
    go_wp2
    go_region
    have q1 := (r68.dropM hin).take (show p ≤ n6 - i by omega)
    have q2 := r68.dropM hpn
    have q0 := r68.take hin
    generalize (if c6 = i then A6 else Option.map (fun x => x.add i) A6) = P1 at *
    generalize (if c6 = i + p then A6 else Option.map (fun x => x.add (i + p)) A6) = P2 at *
    have hV : Pcs w7 (((w7.alloc (.cells #[.slice A7 n7 c7, .int .u64 kq, .bool brq] 29)).alloc (.cells #[.slice none 0 0, .int .u64 0, .bool false] 29)).alloc (.cells #[.slice A6 i c6, .slice P1 p (c6 - i), .slice P2 (n6 - (i + p)) (c6 - (i + p))] 25)).drew
        ((w7.alloc (.cells #[.slice A7 n7 c7, .int .u64 kq, .bool brq] 29)).alloc (.cells #[.slice none 0 0, .int .u64 0, .bool false] 29)).heap.size [bl.take i, (bl.drop i).take p, bl.drop (i + p)] :=
      Pcs.three (W := (w7.alloc (.cells #[.slice A7 n7 c7, .int .u64 kq, .bool brq] 29)).alloc (.cells #[.slice none 0 0, .int .u64 0, .bool false] 29)) (t := 25) q0 q1 q2
    rw [show ((w7.alloc (.cells #[.slice A7 n7 c7, .int .u64 kq, .bool brq] 29)).alloc (.cells #[.slice none 0 0, .int .u64 0, .bool false] 29)).heap.size = w7.heap.size + 1 + 1 from by simp] at hV
    have hBz : Below w7.heap.size w7 (((w7.alloc (.cells #[.slice A7 n7 c7, .int .u64 kq, .bool brq] 29)).alloc (.cells #[.slice none 0 0, .int .u64 0, .bool false] 29)).alloc (.cells #[.slice A6 i c6, .slice P1 p (c6 - i), .slice P2 (n6 - (i + p)) (c6 - (i + p))] 25)).drew :=
      ((((Below.refl _ _).alloc (Nat.le_refl _) _).alloc (by simp) _).alloc (by simp; omega) _).drew
    have hS12 : SBox (((w7.alloc (.cells #[.slice A7 n7 c7, .int .u64 kq, .bool brq] 29)).alloc (.cells #[.slice none 0 0, .int .u64 0, .bool false] 29)).alloc (.cells #[.slice A6 i c6, .slice P1 p (c6 - i), .slice P2 (n6 - (i + p)) (c6 - (i + p))] 25)).drew w7.heap.size A7 n7 c7 kq brq :=
      ((SBox.new w7 A7 n7 c7 kq brq).below ((Below.refl _ _).alloc (Nat.le_refl _) (.cells #[.slice none 0 0, .int .u64 0, .bool false] 29))).below (((Below.refl _ _).alloc (Nat.le_refl _) (.cells #[.slice A6 i c6, .slice P1 p (c6 - i), .slice P2 (n6 - (i + p)) (c6 - (i + p))] 25)).drew)
    have hS14 : SBox (((w7.alloc (.cells #[.slice A7 n7 c7, .int .u64 kq, .bool brq] 29)).alloc (.cells #[.slice none 0 0, .int .u64 0, .bool false] 29)).alloc (.cells #[.slice A6 i c6, .slice P1 p (c6 - i), .slice P2 (n6 - (i + p)) (c6 - (i + p))] 25)).drew (w7.alloc (.cells #[.slice A7 n7 c7, .int .u64 kq, .bool brq] 29)).heap.size none 0 0 0 false :=
      (SBox.new (w7.alloc (.cells #[.slice A7 n7 c7, .int .u64 kq, .bool brq] 29)) none 0 0 0 false).below (((Below.refl _ _).alloc (Nat.le_refl _) (.cells #[.slice A6 i c6, .slice P1 p (c6 - i), .slice P2 (n6 - (i + p)) (c6 - (i + p))] 25)).drew)
    rw [show (w7.alloc (.cells #[.slice A7 n7 c7, .int .u64 kq, .bool brq] 29)).heap.size = w7.heap.size + 1 from by simp] at hS14
    have hz9 : (((w7.alloc (.cells #[.slice A7 n7 c7, .int .u64 kq, .bool brq] 29)).alloc (.cells #[.slice none 0 0, .int .u64 0, .bool false] 29)).alloc (.cells #[.slice A6 i c6, .slice P1 p (c6 - i), .slice P2 (n6 - (i + p)) (c6 - (i + p))] 25)).drew.heap.size = w7.heap.size + 3 := by simp
    have hLb : ∀ l ∈ [bl.take i, (bl.drop i).take p, bl.drop (i + p)], Byt l := fun l hl => by
      simp at hl
      rcases hl with rfl | rfl | rfl
      · exact Byt.take hby _
      · exact Byt.take (Byt.drop hby _) _
      · exact Byt.drop hby _
    have hfl : [bl.take i, (bl.drop i).take p, bl.drop (i + p)].flatten = bl := by
      simp only [List.flatten_cons, List.flatten_nil, List.append_nil]
      rw [← List.drop_drop, List.take_append_drop, List.take_append_drop]
    have hLl : ∀ l ∈ [bl.take i, (bl.drop i).take p, bl.drop (i + p)], l.length ≤ 30100 := fun l hl => by
      simp at hl
      rcases hl with rfl | rfl | rfl <;> simp <;> omega
    have hL3 : [bl.take i, (bl.drop i).take p, bl.drop (i + p)].length = 3 := rfl
    clear q0 q1 q2 r68
    go_wp2
    rw [show i + p - i = p from Nat.add_sub_cancel_left ..]
    generalize (((w7.alloc (.cells #[.slice A7 n7 c7, .int .u64 kq, .bool brq] 29)).alloc (.cells #[.slice none 0 0, .int .u64 0, .bool false] 29)).alloc (.cells #[.slice A6 i c6, .slice P1 p (c6 - i), .slice P2 (n6 - (i + p)) (c6 - (i + p))] 25)).drew = W9 at *
    generalize [bl.take i, (bl.drop i).take p, bl.drop (i + p)] = L at *
    go_loopw [15, 61] (fun vC q W => ∃ e : Nat, e ≤ 3 ∧ q = .int .i64 e ∧ PcR w7 W9 (w7.heap.size + 1) L e vC W) (fun _ q _ => 3 - (intOf q).toNat)
    case atStart => exact ⟨0, by omega, rfl, st0, [], none, 0, 0, [], rfl, hS14, Rd.nil _ _ _ (by simp [maxLen]), OwnC.nil _ _, Stays.nil _ _ _ _, World.grownBy.refl _ _⟩
    case round =>
      obtain ⟨e, he3, rfl, S, C, A1, n1, c1, R, hF, hS1, hR1, hC1, hT1, hg1⟩ := hrel
      have hVW := hV.grown hg1 (by intro e; injection e with e; omega)
      by_cases hlt : e < 3
      · obtain ⟨l, hl⟩ : ∃ l, L[e]? = some l := ⟨_, List.getElem?_eq_getElem (by omega)⟩
        obtain ⟨A2, n2, c2, x0, hR2⟩ := hVW e l hl
        have hB7 : Below w7.heap.size w7 wr := hBz.grown hg1 hBz.size (fun q e => by injection e with e; omega)
        have hR2' := hR2.below hB7
        have hlb := hLb l (List.mem_of_getElem? hl)
        have hll := hLl l (List.mem_of_getElem? hl)
        have hlen2 := hR2.len
        have hso1 : Sound6 S := by
          have := feed_sound (L.take e).flatten sound0 (byt_flatten hLb e)
          rw [hF] at this; exact this
        obtain ⟨b1, k1, br1⟩ := S
        have y0 := hS1.c0
        have y1 := hS1.c1
        have y2 := hS1.c2
        have hei : (e : Int) < 3 := by omega
        go_wp2_with fail
        refine (feed_any A1 n1 c1 (b1, k1, br1) A2 n2 c2 l wr hso1 hR1 hR2' (fun _ => by omega)).mono ?_
        intro e' w2 h2
        obtain ⟨pz, hpz⟩ : ∃ pz, pz = feed (b1, k1, br1) l := ⟨_, rfl⟩
        have hck : (feed (b1, k1, br1) l).2.length ≤ l.length := ck_len
        have hck1 : (feed st0 (L.take e).flatten).2.length ≤ (L.take e).flatten.length := ck_len
        rw [← hpz] at h2 hck
        rw [hF] at hck1
        have hF2 : feed st0 (L.take (e + 1)).flatten = (pz.1, C ++ pz.2) := by rw [flatten_snoc hl, feed_append, hF, ← hpz]
        obtain ⟨⟨b2, k2, br2⟩, C2⟩ := pz
        obtain ⟨A3, n3, c3, A4, n4, c4, R4, rfl, O3, C4, T4, hb2⟩ := h2
        have hRn := hT1.tells.1
        have hRn4 := T4.tells.1
        have hn4 := C4.len
        have hfll := flat_le hLl e
        have hRl : R.length + n4 ≤ 1000000000 := by simp only at hck hck1 hRn4; omega
        have T1 := (hT1.below hb2).wider (B' := w2.heap.size) hb2.size (.inl rfl)
        have C1 := hC1.below hb2
        have hclt := hC1.lt
        have T2 := (T4.but (x := u15.ownBlock) (fun q e => (hclt q e).2)).lower (lo' := W9.heap.size) hg1.size
        have T3 := T1.app T2
        have S2 := hS1.below hb2
        have hg2 : W9.grownBy w2 (some (w7.heap.size + 1)) := hg1.trans ⟨hb2.os, hb2.tape, hb2.output, hb2.size, fun q hq _ => hb2.block q hq⟩
        have G := put3_grown w2 (w7.heap.size + 1) (.slice A3 n3 c3) (.int .u64 k2) (.bool br2)
        have S3 := S2.put3 A3 n3 c3 k2 br2
        have O5 := O3.grown G (O3.low (by have := hg1.size; omega))
        have C5 := C1.grown G (C1.low (by omega))
        have C6 := (C4.grown G (C4.low (by have := hg1.size; omega))).reads
        have T5 := T3.grownLow G (Nat.le_refl _) (fun q e => by injection e with e; omega)
        have hg3 := hg2.trans G
        have hz3 : W9.heap.size ≤ (((w2.setCell ⟨w7.heap.size + 1, 0, none⟩ (.slice A3 n3 c3)).setCell ⟨w7.heap.size + 1, 1, none⟩ (.int .u64 k2)).setCell ⟨w7.heap.size + 1, 2, none⟩ (.bool br2)).heap.size := hg3.size
        have f0 := S2.frozen 0
        have f1 := S2.frozen 1
        have f2 := S2.frozen 2
        have u0 := S2.c0
        have u1 := S2.c1
        have u2 := S2.c2
        clear T1 C1 T2 T3 hS1 hR1 hC1 hT1 hg1 hVW x0 y0 y1 y2 C4 T4 O3 hg2 hR2 hR2' hB7
        go_wp2_with (at_builtin; refine wpList_appC rfl (.tmp 71) (.tmp 72) rfl W9.heap.size u15 R rfl A4 n4 c4 R4 rfl C5 C6 hRl hz3 ?_; intro v9 w9 C9 G9 hat9)
        have hwz := G.size
        have T9 := (T5.grown G9 hwz (.inl rfl)).wider (B' := w9.heap.size) (x' := v9.ownBlock) (Nat.le_trans hwz G9.size) (by
          rcases hat9 with h | h
          · exact .inl h
          · exact .inr (.inr ⟨_, h, hwz⟩))
        have S9 := S3.farG G9 (fun q e => by have := hclt q e; omega)
        have O9 := O5.grown G9 (O5.apartC hclt)
        have hg9 : W9.grownBy w9 (some (w7.heap.size + 1)) := hg3.trans2 G9 (fun q e => (hclt q e).1)
        go_roundw
        case rel => exact ⟨e + 1, by omega, by go_num, (b2, k2, br2), C ++ C2, A3, n3, c3, _, hF2, S9, O9.reads, C9, T9, hg9⟩
        case measure => (simp [intOf] <;> omega)
      · have he : e = 3 := by omega
        subst he
        rw [List.take_of_length_le (by omega), hfl, ← hpq] at hF
        injection hF with e1 e2
        subst e1 e2
        have S12 := hS12.grown hg1 (by intro e; injection e with e; omega)
        have hB7 : Below w7.heap.size w7 wr := hBz.grown hg1 hBz.size (fun q e => by injection e with e; omega)
        have r7' := r7.below hB7
        have q7' := q7.below hB7
        have hbw := below_then hb8 hB7
        obtain ⟨Av, cv, rfl, hrc⟩ := hC1.form rfl
        have hRw : RdC wr Av R.length cv Cq := ⟨R, hrc, hT1.tells⟩
        have hm7 := q7.len
        have hRw' := hRw.len
        obtain rfl : m7 = R.length := by omega
        have hn7 := r7.len
        have hn1 := hR1.len
        obtain rfl : n7 = n1 := by simp only at hn1; omega
        have y0 := hS1.c0
        have y1 := hS1.c1
        have y2 := hS1.c2
        have x0 := S12.c0
        have x1 := S12.c1
        have x2 := S12.c2
        clear hS12 hS14 hC1 hT1 hrc hg1 hVW hV hBz hB7 r7 q7 hb8 hLb hLl hfl hL3
        go_wp2_with fail
        refine (sameStream_yes A7 A1 n7 c7 c1 kq brq bq wr r7' hR1).mono ?_
        rintro e w11 ⟨rfl, hb11⟩
        have q8 := q7'.below hb11
        have v8 := hRw.below hb11
        have hbx := below_then hbw hb11
        clear r7' hR1 q7' hRw hbw hb11 y0 y1 y2 x0 x1 x2 S12 hS1
        go_wp2_with fail
        refine (sameChunks_yes C7 Av R.length d7 cv Cq w11 q8 v8).mono ?_
        rintro e w12 ⟨rfl, j12, rfl⟩
        have hby := below_drewN hbx j12
        clear q8 v8 hbx
        go_wp2_with fail
        refine (awake_any _).mono ?_
        rintro e w13 ⟨rfl, hb13⟩
        have hbz := below_then hby hb13
        go_wp2
        go_ret
        exact ⟨rfl, hbz⟩
end Go.Proofs.Ytfihaonpifoekaa
