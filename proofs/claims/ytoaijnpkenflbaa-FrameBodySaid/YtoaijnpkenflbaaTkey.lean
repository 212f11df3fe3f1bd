/- tags.join, tags.Key and heavykeysref01.Key. Conditions: none beyond those typed. -/
import Derived.Test.YtoaijnpkenflbaaTbuild
import Derived.Test.YtoaijnpkenflbaaTrsort
import Derived.Lib.UnsafeStr
import Derived.Laws.IdiomStrings
namespace Go.Proofs.Ytoaijnpkenflbaa
open Go.ChangeShapes Go.WideShapes Go.ChangeAt Go.RowKit
set_option linter.unusedVariables false
set_option maxRecDepth 100000
set_option linter.unusedSimpArgs false

theorem cells_one (s : ByteArray) (h : s.size ≤ 255) : Lib.byteCells (one s) = [.int .u8 (s.size : Int)] ++ Lib.strCells s := by
  have : (UInt8.ofNat s.size).toNat = s.size := by rw [UInt8.toNat_ofNat']; omega
  simp only [one, Lib.byteCells, Lib.strCells, List.map_cons, this]
  rfl
theorem joinT_snoc {l : List Tg} {k : Nat} {t : Tg} (ht : l[k]? = some t) : joinT (l.take (k + 1)) = joinT (l.take k) ++ (one t.1 ++ one t.2) := by
  rw [List.take_add_one, ht]
  simp [joinT]
theorem cells_next {l : List Tg} {k : Nat} {p q : ByteArray} (ht : l[k]? = some (p, q)) (hp : p.size ≤ 255) (hq : q.size ≤ 255) :
    Lib.byteCells (joinT (l.take k)) ++ [.int .u8 (p.size : Int)] ++ Lib.strCells p ++ [.int .u8 (q.size : Int)] ++ Lib.strCells q = Lib.byteCells (joinT (l.take (k + 1))) := by
  rw [joinT_snoc ht, Lib.byteCells_append, Lib.byteCells_append, cells_one p hp, cells_one q hq]
  simp
theorem joinT_len : ∀ (l : List Tg), (∀ t ∈ l, t.1.size ≤ 255 ∧ t.2.size ≤ 255) → (joinT l).length ≤ l.length * 512
  | [], _ => by simp [joinT]
  | t :: r, h => by
    have ih := joinT_len r fun x hx => h x (by simp [hx])
    have ht := h t (by simp)
    have e : joinT (t :: r) = one t.1 ++ one t.2 ++ joinT r := by simp [joinT]
    have a1 : (one t.1).length = t.1.size + 1 := by rw [ba_size]; simp [one]
    have a2 : (one t.2).length = t.2.size + 1 := by rw [ba_size]; simp [one]
    rw [e, List.length_append, List.length_append, a1, a2, List.length_cons]
    omega
theorem isb_alloc {T e : TypeId} {B b : Nat} {bs : List Value} {w : World} (h : Lib.IsBuilderF T e B b bs w) (o : Obj) : Lib.IsBuilderF T e B b bs (w.alloc o) := by
  rcases h with h | h
  · exact .inl (h.alloc o)
  · exact .inr (h.alloc o)
theorem isb_drewN {T e : TypeId} {B b : Nat} {bs : List Value} {w : World} (h : Lib.IsBuilderF T e B b bs w) (n : Nat) : Lib.IsBuilderF T e B b bs (w.drewN n) := h
theorem isb_fresh (w : World) : Lib.IsBuilderF 105 5 w.heap.size w.heap.size [] (w.alloc (.cells #[.pointer none, .slice none 0 0] 105)) :=
  .inl ⟨Nat.le_refl _, .slice none 0 0, heap_alloc_new w _, World.ownsRowF_nil _ _ _ _, by simp [Value.ownBlock]⟩

/-- The box of a tag in block g. -/
def Box (w : World) (g : Nat) (p q : ByteArray) : Prop := w.heap[g]? = some (.cells #[.string p, .string q] 33 (0, 0))
theorem Box.new (w : World) (p q : ByteArray) : Box (w.alloc (.cells #[.string p, .string q] 33)) w.heap.size p q := heap_alloc_new w _
theorem Box.c0 {w : World} {g : Nat} {p q : ByteArray} (h : Box w g p q) : w.cell? ⟨g, 0, none⟩ = some (.string p) := by rw [Lib.cell_of_heap h]; rfl
theorem Box.c1 {w : World} {g : Nat} {p q : ByteArray} (h : Box w g p q) : w.cell? ⟨g, 1, none⟩ = some (.string q) := by rw [Lib.cell_of_heap h]; rfl
theorem Box.out {B b : Nat} {bs : List Value} {w w' : World} {g : Nat} {p q : ByteArray} (h : Box w g p q) (hg : g ≠ b) (ho : BldOut B b bs w w') : Box w' g p q :=
  ho.2.2 g _ h (fun e => hg (Option.some.inj e)) fun c fz e => by injection e with _ e; exact absurd e (by decide)

/-- The bytes of joined tags. -/
def keyS (l : List Tg) : ByteArray := ⟨(joinT l).toArray⟩
theorem keyS_size (l : List Tg) : (keyS l).size = (joinT l).length := by simp [keyS, ByteArray.size]
theorem key_bad {l : List Tg} (h : sortErr l ≠ 0) : keyErr l = sortErr l ∧ keyBy l = ⟨#[]⟩ := by
  have e : keyErr l = sortErr l := by unfold keyErr; rw [if_neg h]
  exact ⟨e, by unfold keyBy; rw [e, if_neg h]⟩
theorem key_long {l : List Tg} (h : sortErr l = 0) (hl : 255 < (keyS (srt l)).size) : keyErr l = 4 ∧ keyBy l = ⟨#[]⟩ := by
  rw [keyS_size] at hl
  have e : keyErr l = 4 := by unfold keyErr; rw [if_pos h, if_pos hl]
  exact ⟨e, by unfold keyBy; rw [e, if_neg (by decide)]⟩
theorem key_ok {l : List Tg} (h : sortErr l = 0) (hl : (keyS (srt l)).size ≤ 255) : keyErr l = 0 ∧ keyBy l = keyS (srt l) := by
  rw [keyS_size] at hl
  have e : keyErr l = 0 := by unfold keyErr; rw [if_pos h, if_neg (by omega)]
  exact ⟨e, by unfold keyBy; rw [if_pos e]; rfl⟩
theorem sorted_sizes {l : List Tg} (h : sortErr l = 0) : ∀ t ∈ srt l, t.1.size ≤ 255 ∧ t.2.size ≤ 255 := by
  intro t ht
  have := vErr_size ((sortErr_zero.1 h).2.1 t ((srt_perm l).mem_iff.1 ht))
  omega
/-- What Key gives back. -/
def KeyOut (l : List Tg) (w : World) (e : Ending) (w' : World) : Prop := e = .returned (.tuple #[.string (keyBy l), .int .i64 (keyErr l)]) ∧ Below w.heap.size w w'
theorem KeyOut.mk' {l : List Tg} {w w' : World} {s : ByteArray} {z : Int} (h : keyErr l = z ∧ keyBy l = s) (hb : Below w.heap.size w w') : KeyOut l w (.returned (.tuple #[.string s, .int .i64 z])) w' := by
  obtain ⟨rfl, rfl⟩ := h; exact ⟨rfl, hb⟩

set_option maxHeartbeats 2000000 in
theorem join_any (A : Option Addr) (n c : Nat) (l : List Tg) (w : World) (hR : RdT w A n c l) (hn : n ≤ 1000) (hv : ∀ t ∈ l, t.1.size ≤ 255 ∧ t.2.size ≤ 255) :
    Calls Try.prog 54 #[.slice A n c] w fun e w' => e = .returned (.string (keyS l)) ∧ Below w.heap.size w w' := by
  have hln := Lib.hid hR.len
  go_enter Try.func54, Try.ntmps54
  go_wp2
  go_loopw [8] (fun i W => ∃ k : Nat, k ≤ n ∧ Lib.IsBuilderF 105 5 w.heap.size w.heap.size (Lib.byteCells (joinT (l.take k))) W ∧ Below w.heap.size w W ∧ i = .int .i64 k) (fun i _ => n - (intOf i).toNat)
  case atStart => exact ⟨0, Nat.zero_le _, isb_fresh w, (Below.refl _ _).alloc (Nat.le_refl _) _, rfl⟩
  case round =>
    obtain ⟨k, hk, hI, hb, rfl⟩ := hrel
    have hz := hb.size
    have hRw := hR.below hb
    have hlk : (joinT (l.take k)).length ≤ 512000 := by
      have h1 := joinT_len (l.take k) fun t ht => hv t (List.mem_of_mem_take ht)
      have h2 : (l.take k).length ≤ k := List.length_take_le _ _
      omega
    have hb1 : (Lib.byteCells (joinT (l.take k))).length ≤ 512000 := by rw [Lib.byteCells_length]; exact hlk
    clear hlk
    by_cases hlt : k < n
    · obtain ⟨b, o, p, q, rfl, hg, hp, hq, hbl, h1, h2⟩ := hRw.at_ hlt
      have hpq := hv _ (List.mem_of_getElem? hg)
      have hpp : p.size ≤ 255 := hpq.1
      have hqq : q.size ≤ 255 := hpq.2
      have HN := Lib.hid (cells_next hg hpp hqq)
      have hgb : wr.heap.size ≠ w.heap.size := by
        rcases hI with h | h
        · have := h.lt; omega
        · have := h.lt; omega
      clear hg hpq
      go_wp2_with fail
      refine (writeByte_any w.heap.size w.heap.size _ _ _ (isb_alloc hI _) (by omega) (by simp; omega)).mono ?_
      rintro e w1 ⟨rfl, ho1⟩
      have bx1 := (Box.new wr p q).out hgb ho1
      have k1 := bx1.c0
      have k2 := bx1.c1
      have z1 := ho1.2.1.size
      simp at z1
      have hb2 : Below w.heap.size w w1 := (hb.alloc hz _).trans ho1.2.1
      go_wp2_with fail
      refine (writeString_any w.heap.size w.heap.size _ _ _ (.inr ho1.1) (by simp; omega) (by omega)).mono ?_
      rintro e w2 ⟨rfl, ho2⟩
      have bx2 := bx1.out hgb ho2
      clear k1 k2
      have k1 := bx2.c0
      have k2 := bx2.c1
      have z2 := ho2.2.1.size
      have hb3 : Below w.heap.size w w2 := hb2.trans ho2.2.1
      go_wp2_with fail
      refine (writeByte_any w.heap.size w.heap.size _ _ _ (.inr ho2.1) (by simp [Lib.strCells_length]; omega) (by omega)).mono ?_
      rintro e w3 ⟨rfl, ho3⟩
      have bx3 := bx2.out hgb ho3
      clear k1 k2
      have k1 := bx3.c0
      have k2 := bx3.c1
      have z3 := ho3.2.1.size
      have hb4 : Below w.heap.size w w3 := hb3.trans ho3.2.1
      go_wp2_with fail
      refine (writeString_any w.heap.size w.heap.size _ _ _ (.inr ho3.1) (by simp [Lib.strCells_length]; omega) (by omega)).mono ?_
      rintro e w4 ⟨rfl, ho4⟩
      have HI : Hid (Lib.IsBuilderF 105 5 w.heap.size w.heap.size (Lib.byteCells (joinT (l.take (k + 1)))) w4) := Lib.hid (HN.out ▸ .inr ho4.1)
      have hb5 : Below w.heap.size w w4 := hb4.trans ho4.2.1
      clear ho1 ho2 ho3 ho4 bx1 bx2 bx3 k1 k2 hI
      go_wp2
      go_roundw
      case rel => exact ⟨k + 1, by omega, HI.out, hb5, by go_num⟩
      case measure => simp [intOf]; omega
    · have hlk2 : l.length ≤ k := by have := hln.out; omega
      rw [List.take_of_length_le hlk2] at hI hb1
      clear hlk2
      go_wp2_with fail
      refine (Try.Builder_String_any_k w.heap.size w.heap.size _ _ hI hz).mono ?_
      rintro e w1 ⟨rfl, _, hb2, _⟩
      go_wp2
      go_ret
      exact ⟨rfl, hb.trans hb2⟩

set_option maxHeartbeats 1000000 in
theorem key_any (A : Option Addr) (n c : Nat) (l : List Tg) (w : World) (hR : RdT w A n c l) (hn : n ≤ 1000) :
    Calls Try.prog 36 #[.slice A n c] w (KeyOut l w) := by
  by_cases h0 : sortErr l = 0
  · have hT : sortT l = srt l := by unfold sortT; rw [if_pos h0]
    have HT := Lib.hid hT
    have H0 := Lib.hid h0
    have HV := Lib.hid (sorted_sizes h0)
    by_cases hlen : (keyS (srt l)).size ≤ 255
    · have HK := Lib.hid (key_ok h0 hlen)
      clear hT h0
      go_enter Try.func36, Try.ntmps36
      go_wp2_with fail
      refine (sort_any _ _ _ _ _ hR hn).mono ?_
      rintro e w1 ⟨A', n', c', rfl, hn8, hr, hb⟩
      rw [H0.out]
      rw [HT.out] at hr
      go_wp2_with fail
      refine (join_any _ _ _ _ _ hr (by omega) HV.out).mono ?_
      rintro e w2 ⟨rfl, hb2⟩
      go_wp2
      go_ret2
      exact KeyOut.mk' HK.out (hb.trans (hb2.mono hb.size))
    · have HK := Lib.hid (key_long h0 (by omega))
      clear hT h0
      go_enter Try.func36, Try.ntmps36
      go_wp2_with fail
      refine (sort_any _ _ _ _ _ hR hn).mono ?_
      rintro e w1 ⟨A', n', c', rfl, hn8, hr, hb⟩
      rw [H0.out]
      rw [HT.out] at hr
      go_wp2_with fail
      refine (join_any _ _ _ _ _ hr (by omega) HV.out).mono ?_
      rintro e w2 ⟨rfl, hb2⟩
      go_wp2
      go_ret2
      exact KeyOut.mk' HK.out (hb.trans (hb2.mono hb.size))
  · have HK := Lib.hid (key_bad h0)
    have hv1 : (sortErr l == 0) = false := beq_false_of_ne h0
    have hv2 : (sortErr l != 0) = true := bne_iff_ne.2 h0
    clear h0
    go_enter Try.func36, Try.ntmps36
    go_wp2_with fail
    refine (sort_any _ _ _ _ _ hR hn).mono ?_
    rintro e w1 ⟨A', n', c', rfl, hn8, hr, hb⟩
    go_wp2
    go_ret2
    exact KeyOut.mk' HK.out hb

/-- The string of one byte. -/
def chr (n : Nat) : ByteArray := ⟨#[UInt8.ofNat n]⟩
theorem chr_size (n : Nat) : (chr n).size ≤ 1 := Nat.le_refl _
theorem conv_one (w : World) (h n : Nat) (hn : n ≤ 255) (hc : w.cell? ⟨h, 0, none⟩ = some (.int .u8 (n : Int))) : (convert 31 9 (.slice (some ⟨h, 0, none⟩) 1 1)).run Try.prog w = .ok (.string (chr n)) w :=
  run_convert_bytes_back w _ _ _ ⟨h, 0, none⟩ 1 [UInt8.ofNat n] Try.underlying31 Try.underlying5 Try.underlying9 fun j hj => by
    have h0 : j = 0 := by simp at hj; exact hj
    subst h0
    have : (UInt8.ofNat n).toNat = n := by rw [UInt8.toNat_ofNat']; omega
    have e : (⟨h, 0, none⟩ : Addr).add 0 = ⟨h, 0, none⟩ := rfl
    rw [e, hc]
    simp only [List.getElem_cons_zero, this]
theorem keyS_snoc {l : List Tg} {k : Nat} {p q : ByteArray} (ht : l[k]? = some (p, q)) : keyS (l.take k) ++ (((chr p.size ++ p) ++ chr q.size) ++ q) = keyS (l.take (k + 1)) := by
  apply ByteArray.ext
  simp only [ByteArray.data_append, keyS, joinT_snoc ht, chr, one]
  apply Array.ext'
  simp
theorem ba_append_size (a b : ByteArray) : (a ++ b).size = a.size + b.size := ByteArray.size_append

set_option maxRecDepth 100000 in
set_option maxHeartbeats 1000000 in
theorem rkey_any (A : Option Addr) (n c : Nat) (l : List Tg) (w : World) (hR : RdT w A n c l) (hn : n ≤ 1000) :
    Calls Try.prog 52 #[.slice A n c] w (KeyOut l w) := by
  by_cases h0 : sortErr l = 0
  · have hT : sortT l = srt l := by unfold sortT; rw [if_pos h0]
    have HT := Lib.hid hT
    have H0 := Lib.hid h0
    have hV := Lib.hid (sorted_sizes h0)
    have HLk := Lib.hid (@key_long l h0)
    have HOk := Lib.hid (@key_ok l h0)
    clear hT h0
    go_enter Try.func52, Try.ntmps52
    go_wp2_with fail
    refine (rsort_any _ _ _ _ _ hR hn).mono ?_
    rintro e w1 ⟨A', n', c', rfl, hn8, hr, hb⟩
    rw [H0.out]
    rw [HT.out] at hr
    have hln := Lib.hid hr.len
    have hz1 := hb.size
    go_wp2
    go_loopw [6, 19] (fun s i W => ∃ k : Nat, k ≤ n' ∧ s = .string (keyS ((srt l).take k)) ∧ Below w1.heap.size w1 W ∧ i = .int .i64 k) (fun _ i _ => n' - (intOf i).toNat)
    case atStart => exact ⟨0, Nat.zero_le _, rfl, Below.refl _ _, rfl⟩
    case round =>
      obtain ⟨k, hk, rfl, hb1, rfl⟩ := hrel
      have hRw := hr.below hb1
      by_cases hlt : k < n'
      · obtain ⟨b, o, p, q, rfl, hg, hp, hq, hbl, h1, h2⟩ := hRw.at_ hlt
        have hpq := hV.out _ (List.mem_of_getElem? hg)
        have hpp : p.size ≤ 255 := hpq.1
        have hqq : q.size ≤ 255 := hpq.2
        clear hpq
        have HN := Lib.hid (keyS_snoc hg)
        have hs0 : (keyS ((srt l).take k)).size ≤ 512000 := by
          rw [keyS_size]
          have h1 := joinT_len ((srt l).take k) fun t ht => hV.out t (List.mem_of_mem_take ht)
          have h2 : ((srt l).take k).length ≤ k := List.length_take_le _ _
          omega
        have hs1 := chr_size p.size
        have hs2 := chr_size q.size
        have hC1 := conv_one ((wr.alloc (.cells #[.string p, .string q] 33)).alloc (.cells #[.int .u8 (p.size : Int)] 5)) (wr.heap.size + 1) p.size hpp (by rw [World.cell?_alloc_at _ _ _ _ (by simp)]; rfl)
        have hC2 := conv_one (((wr.alloc (.cells #[.string p, .string q] 33)).alloc (.cells #[.int .u8 (p.size : Int)] 5)).alloc (.cells #[.int .u8 (q.size : Int)] 5)) (wr.heap.size + 1 + 1) q.size hqq (by rw [World.cell?_alloc_at _ _ _ _ (by simp)]; rfl)
        clear hg
        go_wp2
        go_roundw
        case rel => exact ⟨k + 1, by omega, by rw [HN.out], ((hb1.alloc hb1.size _).alloc (by have := hb1.size; simp; omega) _).alloc (by have := hb1.size; simp; omega) _, by go_num⟩
        case measure => simp [intOf]; omega
      · have hT2 : (srt l).take k = srt l := List.take_of_length_le (by have := hln.out; omega)
        rw [hT2]
        clear hT2
        have hbb : Below w.heap.size w wr := hb.trans (hb1.mono hz1)
        by_cases hlen : (keyS (srt l)).size ≤ 255
        · have HK := Lib.hid (HOk.out hlen)
          go_wp2
          go_ret2
          exact KeyOut.mk' HK.out hbb
        · have HK := Lib.hid (HLk.out (by omega))
          go_wp2
          go_ret2
          exact KeyOut.mk' HK.out hbb
  · have HK := Lib.hid (key_bad h0)
    have hv1 : (sortErr l == 0) = false := beq_false_of_ne h0
    have hv2 : (sortErr l != 0) = true := bne_iff_ne.2 h0
    clear h0
    go_enter Try.func52, Try.ntmps52
    go_wp2_with fail
    refine (rsort_any _ _ _ _ _ hR hn).mono ?_
    rintro e w1 ⟨A', n', c', rfl, hn8, hr, hb⟩
    go_wp2
    go_ret2
    exact KeyOut.mk' HK.out hb
end Go.Proofs.Ytoaijnpkenflbaa
