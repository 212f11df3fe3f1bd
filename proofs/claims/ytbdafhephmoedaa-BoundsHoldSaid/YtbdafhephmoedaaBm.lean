/- Words laid together in one text. Conditions: none beyond those typed. -/
import Derived.Test.YtbdafhephmoedaaRows
import Derived.WalkKit
import Derived.ProofKit
import Derived.OpenShut
import Derived.IntWalk
import Derived.Lib.Hide
import Derived.Below
import Derived.Laws.OwnMore
import Derived.Deep.AppendLies
import Derived.Deep.Draws
import Derived.Maps.AppendAt
import Derived.RegionTactic
import Derived.OwnWalk
import Derived.Test.YtbdafhephmoedaaBase
import Derived.SizedLaws
import Derived.Lib.VarintBits
import Derived.Test.YtbdafhephmoedaaTm
import Derived.Lib.AppendStr
import Derived.Deep.RegionHeld3
import Derived.Laws.ResultCell
/- Words for slices of bytes: a slice that reads as a list of numbers, a slice that the call itself owns, and append onto an owned one. Conditions: none beyond those typed. -/
namespace Go.Proofs.Ytbdafhephmoedaa
open Go.ChangeShapes Go.WideShapes Go.ChangeAt Go.RowKit
set_option linter.unusedVariables false
set_option maxRecDepth 100000

/-- The slice value '.slice A n c' reads as the bytes l. -/
def Rd (w : World) (A : Option Addr) (n c : Nat) (l : List Int) : Prop :=
  l.length = n ∧ n ≤ c ∧ c ≤ maxLen ∧ (∀ z ∈ l, 0 ≤ z ∧ z ≤ 255) ∧
    ∀ j z, l[j]? = some z → ∃ b o, A = some ⟨b, o, none⟩ ∧ w.cell? ⟨b, o + j, none⟩ = some (.int .u8 z)

/-- v is a row of bytes of the call's own (blocks from base on), which holds l. -/
def Own (w : World) (base : Nat) (v : Value) (l : List Int) : Prop :=
  w.ownsRow base 5 1 v l.length (l.map (Value.int .u8)) ∧ (∀ z ∈ l, 0 ≤ z ∧ z ≤ 255)

section
variable {w w' : World} {A : Option Addr} {n c : Nat} {l : List Int}

theorem Rd.len (h : Rd w A n c l) : l.length = n := h.1
theorem Rd.cap (h : Rd w A n c l) : n ≤ c := h.2.1
theorem Rd.max (h : Rd w A n c l) : c ≤ 9223372036854775807 := h.2.2.1
theorem Rd.bytes (h : Rd w A n c l) : ∀ z ∈ l, 0 ≤ z ∧ z ≤ 255 := h.2.2.2.1
theorem Rd.at_ (h : Rd w A n c l) {k : Nat} (hk : k < n) :
    ∃ b o z, A = some ⟨b, o, none⟩ ∧ l[k]? = some z ∧ 0 ≤ z ∧ z ≤ 255 ∧ b < w.heap.size ∧ w.cell? ⟨b, o + k, none⟩ = some (.int .u8 z) := by
  have hl : k < l.length := by rw [h.1]; exact hk
  have hg : l[k]? = some l[k] := List.getElem?_eq_getElem hl
  obtain ⟨b, o, hA, hc⟩ := h.2.2.2.2 k _ hg
  have hb := h.bytes _ (List.getElem_mem hl)
  exact ⟨b, o, l[k], hA, hg, hb.1, hb.2, World.block_lt_of_cell? w ⟨b, o + k, none⟩ hc, hc⟩
theorem Rd.keep (h : Rd w A n c l) (hk : ∀ a v, w.cell? a = some v → w'.cell? a = some v) : Rd w' A n c l :=
  ⟨h.1, h.2.1, h.2.2.1, h.2.2.2.1, fun j z hz => by
    obtain ⟨b, o, hA, hc⟩ := h.2.2.2.2 j z hz
    exact ⟨b, o, hA, hk _ _ hc⟩⟩
theorem Rd.below (h : Rd w A n c l) (hb : Below w.heap.size w w') : Rd w' A n c l :=
  h.keep fun a v hc => (hb.cell (World.block_lt_of_cell? w a hc)).trans hc
theorem Rd.drew (h : Rd w A n c l) : Rd w.drew A n c l := h
theorem Rd.drewN (h : Rd w A n c l) (k : Nat) : Rd (w.drewN k) A n c l := h
theorem Rd.take (h : Rd w A n c l) {k : Nat} (hk : k ≤ n) : Rd w A k c (l.take k) := by
  refine ⟨by rw [List.length_take, h.1]; omega, Nat.le_trans hk h.2.1, h.2.2.1, fun z hz => h.bytes z (List.mem_of_mem_take hz), fun j z hz => ?_⟩
  rw [List.getElem?_take] at hz
  split at hz
  · exact h.2.2.2.2 j z hz
  · cases hz
theorem Rd.nil (w : World) (A : Option Addr) (c : Nat) (hc : c ≤ maxLen) : Rd w A 0 c [] :=
  ⟨rfl, Nat.zero_le _, hc, fun z hz => absurd hz (by simp), fun j z hz => by simp at hz⟩
theorem Rd.one (w : World) (t : TypeId) (z : Int) (hz : 0 ≤ z ∧ z ≤ 255) : Rd (w.alloc (.cells #[.int .u8 z] t)) (some ⟨w.heap.size, 0, none⟩) 1 1 [z] :=
  ⟨rfl, Nat.le_refl _, by simp [maxLen], fun y hy => by simp at hy; subst hy; exact hz, fun j y hy => by
    match j, hy with
    | 0, hy =>
      simp at hy; subst hy
      refine ⟨_, _, rfl, ?_⟩
      rw [World.cell?_alloc_at _ _ _ _ rfl]; rfl
    | j + 1, hy => simp at hy⟩
theorem Rd.alloc (h : Rd w A n c l) (o : Obj) : Rd (w.alloc o) A n c l := h.below ((Below.refl _ _).alloc (Nat.le_refl _) o)

theorem ints_get {l : List Int} {j : Nat} {u : Value} (h : (l.map (Value.int .u8))[j]? = some u) : ∃ z, l[j]? = some z ∧ u = .int .u8 z := by
  rw [List.getElem?_map] at h
  cases hj : l[j]? with
  | none => rw [hj] at h; cases h
  | some z => rw [hj] at h; exact ⟨z, rfl, (Option.some.inj h).symm⟩

variable {base : Nat} {v : Value}

/-- What is owned reads. -/
theorem Own.form (h : Own w base v l) : ∃ A n c, v = .slice A n c ∧ Rd w A n c l := by
  obtain ⟨hown, hb⟩ := h
  rcases hown.2 with ⟨rfl, hn⟩ | ⟨g, cap, cur, rfl, hbg, hg, hnc, hcm, hcs, htake⟩
  · have hl : l = [] := List.eq_nil_of_length_eq_zero hn
    subst hl
    exact ⟨_, _, _, rfl, Rd.nil _ _ _ (by simp [maxLen])⟩
  · refine ⟨_, _, _, rfl, rfl, hnc, hcm, hb, fun j z hz => ⟨g, 0, rfl, ?_⟩⟩
    have hc := hown.cells (g := g) rfl j (.int .u8 z) (by rw [List.getElem?_map, hz]; rfl)
    rw [Addr.add_lit] at hc
    exact hc
theorem Own.bytes (h : Own w base v l) : ∀ z ∈ l, 0 ≤ z ∧ z ≤ 255 := h.2
theorem Own.nil (w : World) (base : Nat) : Own w base (.slice none 0 0) [] := ⟨World.ownsRow_nil w base _ 1, fun z hz => absurd hz (by simp)⟩
theorem Own.empty (w : World) : Own (w.alloc (.cells #[] 5)) w.heap.size (.slice (some ⟨w.heap.size, 0, none⟩) 0 0) [] :=
  ⟨World.ownsRow_made w #[] 0 (Nat.le_refl _) (by simp [maxLen]) rfl, fun z hz => absurd hz (by simp)⟩
theorem Own.alloc (h : Own w base v l) (o : Obj) : Own (w.alloc o) base v l := ⟨h.1.alloc o, h.2⟩
theorem Own.drew (h : Own w base v l) : Own w.drew base v l := h
theorem Own.drewN (h : Own w base v l) (k : Nat) : Own (w.drewN k) base v l := h
theorem Own.lt (h : Own w base v l) : ∀ k, v.ownBlock = some k → base ≤ k ∧ k < w.heap.size := h.1.lt
theorem Own.below (h : Own w base v l) (hb : Below w.heap.size w w') : Own w' base v l :=
  ⟨h.1.kept (row := none) ⟨hb.os, hb.tape, hb.output, hb.size, fun k hk _ => hb.block k hk⟩ (by cases h : v.ownBlock <;> simp), h.2⟩

theorem Below.app {B : Nat} {w0 : World} (h : Below B w0 w) (hown : Own w base v l) (hg : w.grownBy w' v.ownBlock) (hB : B ≤ w.heap.size) (hbase : B ≤ base) : Below B w0 w' :=
  h.grown hg hB fun k hk => by have := hown.lt k hk; omega
end

theorem info_u8 : (Try.prog.info? 5).map (fun i => (i.zero, i.size, i.bytes)) = some (some (.int .u8 0), 1, 1) := by kernel_rfl

section
variable {w : World}

/-- append of readable bytes onto an owned row: the run. -/
theorem run_app (base : Nat) (ty : TypeId) (v : Value) (l : List Int) (hown : Own w base v l) (A : Option Addr) (m c : Nat) (xs : List Int) (hr : Rd w A m c xs)
    (hbytes : l.length + m ≤ 140737488355328) (hbase : base ≤ w.heap.size) :
    ∃ v' w', (Builtin.append_ #[58, 58] ty #[v, .slice A m c]).run Try.prog w = .ok v' w' ∧ Own w' base v' (l ++ xs) ∧ w.grownBy w' v.ownBlock ∧
      (v'.ownBlock = v.ownBlock ∨ v'.ownBlock = some w.heap.size) := by
  obtain ⟨i0, hi0, hz0, hz1, hz2⟩ := info_parts info_u8
  obtain ⟨hown, hlb⟩ := hown
  have hxb := hr.bytes
  have hlen := hr.len
  have hall : ∀ z ∈ l ++ xs, 0 ≤ z ∧ z ≤ 255 := fun z hz => by
    rcases List.mem_append.1 hz with h | h
    · exact hlb z h
    · exact hxb z h
  cases A with
  | none =>
    have hx : xs = [] := by
      cases xs with
      | nil => rfl
      | cons z r =>
        obtain ⟨b, o, h, _⟩ := hr.2.2.2.2 0 z (by simp)
        cases h
    subst hx
    simp at hlen
    subst hlen
    refine ⟨v, w, ?_, by simpa using ⟨hown, hlb⟩, World.grownBy.refl _ _, .inl rfl⟩
    rcases hown.2 with ⟨rfl, _⟩ | ⟨g, cap, cur, rfl, _, _, hnc, _⟩
    · simp [Builtin.append_, run_underlying Try.underlying58, sizeOf, typeInfo, hi0, Builtin.lenOf, Builtin.firstCells]
    · simp [Builtin.append_, run_underlying Try.underlying58, sizeOf, typeInfo, hi0, Builtin.lenOf, Builtin.firstCells, hnc, storeCells]
  | some ad =>
    have hcells : ∀ j u, (xs.map (Value.int .u8))[j]? = some u → w.cell? (ad.add j) = some u := by
      intro j u hu
      obtain ⟨z, hz, rfl⟩ := ints_get hu
      obtain ⟨b, o, h, hc⟩ := hr.2.2.2.2 j z hz
      obtain rfl := Option.some.inj h
      rw [Addr.add_lit]
      exact hc
    obtain ⟨v', w', hrun, h2, h3, _, h5⟩ := run_append_own_at (P := Try.prog) w base 58 ty 5 i0 _ 1 1 Try.underlying58 hi0 hz0 hz1 hz2 rfl (by omega) v _ _ hown ad m c (xs.map (Value.int .u8))
      (by simp [hlen]) hcells (ints_oneCell _ _) (by simp only [maxLen]; omega) (by omega) hbase
    refine ⟨v', w', hrun, ⟨?_, hall⟩, h3, h5⟩
    rw [List.map_append, List.length_append, hlen]
    exact h2

theorem wpList_app {ops : Array Oper} {rest : List Oper} {o : Oper} {a : Act} {Q : Exit → Act → World → Prop} (hgd : o.guard = none) (s x : Operand)
    (ho : o.op = .call { callee := .builtin .append, args := #[s, x], argTypes := #[58, 58] })
    (base : Nat) (v : Value) (l : List Int) (hs : a.eval s = v) (A : Option Addr) (m c : Nat) (xs : List Int) (hx : a.eval x = .slice A m c)
    (hown : Own w base v l) (hr : Rd w A m c xs)
    (hbytes : l.length + m ≤ 140737488355328) (hbase : base ≤ w.heap.size)
    (h : ∀ v' w', Own w' base v' (l ++ xs) → w.grownBy w' v.ownBlock → (v'.ownBlock = v.ownBlock ∨ v'.ownBlock = some w.heap.size) → wpList Try.prog ops Q rest (a.put o.dst v') w') :
    wpList Try.prog ops Q (o :: rest) a w :=
  wpList_plain hgd fun K hK => by
    obtain ⟨v', w', hr, h2, h3, h4⟩ := run_app base o.type v l hown A m c xs hr hbytes hbase
    unfold Oper.wp execOp
    simp only [ho, resolve, invoke, builtin, Sem.run_bind, Sem.run_pure, Result.andThen_ok, List.map_toArray, List.map_cons, List.map_nil, hs, hx, hr]
    exact hK _ _ (h v' w' h2 h3 h4)
end
end Go.Proofs.Ytbdafhephmoedaa

/- Slices of bytes: heavykeysref01.Same on equal lists, literals, stores into owned rows, strings as bytes. Conditions: none beyond those typed. -/
namespace Go.Proofs.Ytbdafhephmoedaa
open Go.ChangeShapes Go.WideShapes Go.ChangeAt Go.RowKit
set_option linter.unusedVariables false
set_option maxRecDepth 100000
set_option linter.unusedSimpArgs false

theorem lit_cell (l : List Int) (t : TypeId) (w : World) (j : Nat) (z : Int) (h : l[j]? = some z) :
    (w.alloc (.cells (l.map (Value.int .u8)).toArray t)).cell? ⟨w.heap.size, 0 + j, none⟩ = some (.int .u8 z) := by
  rw [Nat.zero_add]
  exact (cell_of_row _ w.heap.size j (l.map (Value.int .u8)).toArray t (0, 0) (heap_alloc_new w _)).trans (by simp [h])
theorem Rd.lit (l : List Int) (w : World) (hb : ∀ z ∈ l, 0 ≤ z ∧ z ≤ 255) (hm : l.length ≤ maxLen) :
    Rd (w.alloc (.cells (l.map (Value.int .u8)).toArray 5)) (some ⟨w.heap.size, 0, none⟩) l.length l.length l :=
  ⟨rfl, Nat.le_refl _, hm, hb, fun j z hz => ⟨_, _, rfl, lit_cell l _ w j z hz⟩⟩
theorem shr_bd (x : Int) (j : Nat) (hx0 : 0 ≤ x) (hx1 : x ≤ 18446744073709551615) : 0 ≤ x / 2 ^ j ∧ x / 2 ^ j ≤ 18446744073709551615 :=
  ⟨Int.ediv_nonneg hx0 (Int.le_of_lt (Int.pow_pos (by omega))), Int.le_trans (Int.ediv_le_self _ hx0) hx1⟩

/-- What a law is told of a slice of bytes that came in. -/
def Arg (w : World) (A : Option Addr) (n c : Nat) : Prop := n ≤ c ∧ c ≤ 140737488351232 ∧ ∃ l, Rd w A n c l

section
variable {w : World} {base : Nat} {A : Option Addr} {n c : Nat} {l : List Int}
theorem Own.len (h : Own w base (.slice A n c) l) : l.length = n := by
  rcases h.1.2 with ⟨h, hn⟩ | ⟨g, cap, cur, h, _⟩
  · injection h with _ h2 _; omega
  · injection h with _ h2 _; omega
theorem Own.reads (h : Own w base (.slice A n c) l) : Rd w A n c l := by
  obtain ⟨A', n', c', e, hr⟩ := h.form
  injection e with e1 e2 e3
  subst e1 e2 e3
  exact hr
theorem Own.head (h : Own w base (.slice A n c) l) (hn : 0 < n) : ∃ g, A = some ⟨g, 0, none⟩ ∧ base ≤ g ∧ g < w.heap.size := by
  have hl := h.len
  rcases h.1.2 with ⟨h', hn'⟩ | ⟨g, cap, cur, h', hb, hg, _⟩
  · omega
  · injection h' with h1 _ _
    refine ⟨g, h1, hb, ?_⟩
    rcases Nat.lt_or_ge g w.heap.size with hlt | hge
    · exact hlt
    · rw [Array.getElem?_eq_none hge] at hg; cases hg
end
section
variable {w : World} {base : Nat} {g n c : Nat} {l : List Int}
theorem Own.free (h : Own w base (.slice (some ⟨g, 0, none⟩) n c) l) (k : Nat) : w.frozen? ⟨g, k, none⟩ = false := by
  obtain rfl := h.len
  exact h.1.frozenAt k
theorem Own.store (h : Own w base (.slice (some ⟨g, 0, none⟩) n c) l) (k : Nat) {z : Int} (hz : 0 ≤ z ∧ z ≤ 255) : Own (w.setCell ⟨g, k, none⟩ (.int .u8 z)) base (.slice (some ⟨g, 0, none⟩) n c) (l.set k z) := by
  obtain rfl := h.len
  refine ⟨?_, fun y hy => ?_⟩
  · rw [List.length_set, List.map_set]
    exact (h.1.stored k _).1
  · rcases List.mem_or_eq_of_mem_set hy with h' | rfl
    · exact h.2 y h'
    · exact hz
end
/-- string(b) of bytes that read. -/
theorem conv_any {w : World} {b o n c : Nat} {l : List Int} (h : Rd w (some ⟨b, o, none⟩) n c l) :
    ∃ s : ByteArray, s.size = n ∧ (convert 58 9 (.slice (some ⟨b, o, none⟩) n c)).run Try.prog w.drew = .ok (.string s) w.drew := by
  have hl := h.len
  refine ⟨⟨(l.map fun z => UInt8.ofNat z.toNat).toArray⟩, by rw [ba_size]; simp [hl], ?_⟩
  have hb := h.bytes
  have e := run_convert_bytes_back (P := Try.prog) w.drew 58 9 5 ⟨b, o, none⟩ c (l.map fun z => UInt8.ofNat z.toNat) Try.underlying58 Try.underlying5 Try.underlying9 (fun j hj => by
    have hj' : j < l.length := by simpa using hj
    obtain ⟨b', o', hA, hc⟩ := h.2.2.2.2 j _ (List.getElem?_eq_getElem hj')
    injection hA with hA; injection hA with e1 e2; subst e1; subst e2
    rw [Addr.add_lit]
    have hz := hb _ (List.getElem_mem hj')
    have : ((UInt8.ofNat (l[j]).toNat).toNat : Int) = l[j] := by rw [UInt8.toNat_ofNat']; omega
    rw [List.getElem_map, this]
    exact hc)
  rw [List.length_map, hl] at e
  exact e
theorem Rd.ofString (w : World) (s : ByteArray) (cap : Nat) (h1 : s.size ≤ cap) (h2 : cap ≤ maxLen) (fz : Nat × Nat) :
    Rd (w.drew.alloc (.cells (bytesRow s cap) 5 fz)) (some ⟨w.heap.size, 0, none⟩) s.size cap (s.data.toList.map fun b => (b.toNat : Int)) := by
  refine ⟨by rw [List.length_map, ← ba_size], h1, h2, ?_, fun j z hz => ⟨_, _, rfl, ?_⟩⟩
  · intro z hz
    obtain ⟨b, _, rfl⟩ := List.mem_map.1 hz
    have := b.toNat_lt
    omega
  · rw [List.getElem?_map] at hz
    have hj : j < s.data.size := by
      rcases Nat.lt_or_ge j s.data.size with h | h
      · exact h
      · rw [List.getElem?_eq_none (by simpa using h)] at hz; cases hz
    have e := bytesRow_at s cap j hj
    have hb : s.data.toList[j]? = some s.data[j] := by simp [hj]
    rw [hb] at hz
    rw [← Option.some.inj hz, Nat.zero_add]
    have hh : (w.drew.alloc (.cells (bytesRow s cap) 5 fz)).heap[w.heap.size]? = some (.cells (bytesRow s cap) 5 fz) := heap_alloc_new w.drew _
    rw [cell_of_row _ w.heap.size j _ _ fz hh]
    exact e
theorem four_cell (w : World) (x y z v : Value) (t : TypeId) : (w.alloc (.cells #[x, y, z, v] t)).cell? ⟨w.heap.size, 0, none⟩ = some x ∧ (w.alloc (.cells #[x, y, z, v] t)).cell? ⟨w.heap.size, 1, none⟩ = some y ∧ (w.alloc (.cells #[x, y, z, v] t)).cell? ⟨w.heap.size, 2, none⟩ = some z ∧ (w.alloc (.cells #[x, y, z, v] t)).cell? ⟨w.heap.size, 3, none⟩ = some v := by
  refine ⟨?_, ?_, ?_, ?_⟩ <;> (rw [World.cell?_alloc_at _ _ _ _ rfl]; rfl)
end Go.Proofs.Ytbdafhephmoedaa

/- Plain facts on numbers as bytes: what a number is encoded to, what the bytes at the beginning of a list are decoded to. No program here. Conditions: none beyond those typed. -/
namespace Go.Proofs.Ytbdafhephmoedaa
set_option linter.unusedVariables false
set_option maxRecDepth 100000

def enc (n : Nat) : List Int := if n < 128 then [(n : Int)] else (((n % 128 : Nat) : Int) + 128) :: enc (n / 128)
termination_by n
decreasing_by omega

theorem enc_lt {n : Nat} (h : n < 128) : enc n = [(n : Int)] := by rw [enc]; exact if_pos h
theorem enc_ge {n : Nat} (h : ¬ n < 128) : enc n = (((n % 128 : Nat) : Int) + 128) :: enc (n / 128) := by rw [enc]; exact if_neg h

theorem enc_pos (n : Nat) : 1 ≤ (enc n).length := by
  by_cases h : n < 128
  · rw [enc_lt h]; simp
  · rw [enc_ge h]; simp
theorem enc_len (k : Nat) : ∀ n, n < 128 ^ (k + 1) → (enc n).length ≤ k + 1 := by
  induction k with
  | zero => intro n h; rw [enc_lt (by simpa using h)]; simp
  | succ k ih =>
    intro n h
    by_cases hn : n < 128
    · rw [enc_lt hn]; simp
    · rw [enc_ge hn]
      have := ih (n / 128) (by rw [Nat.div_lt_iff_lt_mul (by omega)]; rw [Nat.pow_succ] at h; exact h)
      simp; omega
theorem enc_ten {n : Nat} (h : n ≤ 18446744073709551615) : (enc n).length ≤ 10 := enc_len 9 n (by omega)
theorem enc_bytes (n : Nat) : ∀ z ∈ enc n, 0 ≤ z ∧ z ≤ 255 := by
  induction n using enc.induct with
  | case1 n h => intro z hz; rw [enc_lt h] at hz; simp at hz; omega
  | case2 n h ih =>
    intro z hz
    rw [enc_ge h] at hz
    rcases List.mem_cons.1 hz with rfl | hz
    · omega
    · exact ih z hz

/-- How many of the first ten bytes, from the beginning, have the bit 128. -/
def lead (l : List Int) : Nat := ((l.take 10).takeWhile fun z => decide (128 ≤ z)).length

theorem takeWhile_len (p : Int → Bool) : ∀ (l : List Int) (k : Nat), (∀ i z, i < k → l[i]? = some z → p z = true) → k ≤ l.length → (∀ z, l[k]? = some z → p z = false) → (l.takeWhile p).length = k := by
  intro l
  induction l with
  | nil => intro k _ hk _; simp at hk; subst hk; rfl
  | cons x r ih =>
    intro k h1 hk h2
    cases k with
    | zero =>
      have : p x = false := h2 x rfl
      simp [this]
    | succ k =>
      have hx : p x = true := h1 0 x (by omega) rfl
      rw [List.takeWhile_cons, if_pos hx, List.length_cons, ih k (fun i z hi hz => h1 (i + 1) z (by omega) (by simpa using hz)) (by simpa using hk) (fun z hz => h2 z (by simpa using hz))]

theorem takeWhile_spec (p : Int → Bool) : ∀ (l : List Int), (∀ i z, i < (l.takeWhile p).length → l[i]? = some z → p z = true) ∧ (∀ z, l[(l.takeWhile p).length]? = some z → p z = false) := by
  intro l
  induction l with
  | nil => exact ⟨fun i z hi => by simp at hi, fun z hz => by simp at hz⟩
  | cons x r ih =>
    by_cases hx : p x = true
    · rw [List.takeWhile_cons, if_pos hx]
      refine ⟨fun i z hi hz => ?_, fun z hz => ih.2 z (by simpa using hz)⟩
      cases i with
      | zero => simp at hz; subst hz; exact hx
      | succ i => exact ih.1 i z (by simpa using hi) (by simpa using hz)
    · rw [List.takeWhile_cons, if_neg hx]
      refine ⟨fun i z hi => by simp at hi, fun z hz => ?_⟩
      simp at hz; subst hz
      simpa using hx

theorem lead_eq {l : List Int} {k : Nat} (h1 : ∀ i z, i < k → l[i]? = some z → 128 ≤ z) (hk : k ≤ l.length) (h10 : k ≤ 10) (h2 : ∀ z, k < 10 → l[k]? = some z → z < 128) : lead l = k := by
  unfold lead
  refine takeWhile_len _ _ _ (fun i z hi hz => ?_) (by rw [List.length_take]; omega) (fun z hz => ?_)
  · rw [List.getElem?_take] at hz
    split at hz
    · simpa using h1 i z hi hz
    · cases hz
  · rw [List.getElem?_take] at hz
    split at hz
    · simp; exact h2 z (by assumption) hz
    · cases hz

/-- The number whose groups are these bytes. -/
def val : List Int → Int
  | [] => 0
  | z :: r => z % 128 + 128 * val r

theorem val_nonneg : ∀ l, 0 ≤ val l
  | [] => by simp [val]
  | z :: r => by have := val_nonneg r; simp only [val]; omega
theorem val_snoc (l : List Int) (z : Int) : val (l ++ [z]) = val l + z % 128 * 128 ^ l.length := by
  induction l with
  | nil => simp [val]
  | cons x r ih =>
    rw [List.cons_append, val, ih, val, List.length_cons, Int.pow_succ, Int.mul_add, Int.add_assoc]
    congr 2
    rw [← Int.mul_assoc, ← Int.mul_assoc, Int.mul_comm 128 (z % 128), Int.mul_assoc, Int.mul_assoc, Int.mul_comm 128]
theorem val_lt : ∀ l : List Int, val l < 128 ^ l.length
  | [] => by simp [val]
  | z :: r => by
    have := val_lt r
    simp only [val, List.length_cons, Int.pow_succ]
    omega

/-- The number at the beginning of a list: number, length, error. -/
def rdN (l : List Int) : Int :=
  if lead l = 10 ∨ lead l = l.length ∨ (lead l = 9 ∧ 1 < l.getD (lead l) 0) ∨ (0 < lead l ∧ l.getD (lead l) 0 = 0) then 0 else val (l.take (lead l + 1))
def rdK (l : List Int) : Int :=
  if lead l = 10 ∨ lead l = l.length ∨ (lead l = 9 ∧ 1 < l.getD (lead l) 0) ∨ (0 < lead l ∧ l.getD (lead l) 0 = 0) then 0 else (lead l : Int) + 1
def rdE (l : List Int) : Int :=
  if lead l = 10 then 3 else if lead l = l.length then 2 else if (lead l = 9 ∧ 1 < l.getD (lead l) 0) ∨ (0 < lead l ∧ l.getD (lead l) 0 = 0) then 3 else 0

theorem lead_le (l : List Int) : lead l ≤ l.length ∧ lead l ≤ 10 := by
  unfold lead
  have h : ∀ (p : Int → Bool) (r : List Int), (r.takeWhile p).length ≤ r.length := fun p r => (List.takeWhile_sublist p).length_le
  have := h (fun z => decide (128 ≤ z)) (l.take 10)
  rw [List.length_take] at this
  omega

/-- The bytes of a number are read back, whatever follows. -/
theorem lead_enc (n : Nat) (a : List Int) (hn : (enc n).length ≤ 10) (ha : ∀ z ∈ a, 0 ≤ z) : lead (enc n ++ a) + 1 = (enc n).length := by
  have key : ∀ n, (enc n).length = ((enc n).length - 1) + 1 ∧ (∀ i z, i < (enc n).length - 1 → (enc n)[i]? = some z → 128 ≤ z) ∧ (∀ z, (enc n)[(enc n).length - 1]? = some z → z < 128) := by
    intro n
    induction n using enc.induct with
    | case1 n h =>
      rw [enc_lt h]
      refine ⟨rfl, fun i z hi => by simp at hi, fun z hz => ?_⟩
      simp at hz; omega
    | case2 n h ih =>
      have hp := enc_pos (n / 128)
      rw [enc_ge h]
      refine ⟨by simp, fun i z hi hz => ?_, fun z hz => ?_⟩
      · cases i with
        | zero => simp at hz; omega
        | succ i => exact ih.2.1 i z (by simp at hi; omega) (by simpa using hz)
      · refine ih.2.2 z ?_
        have e : ((((n % 128 : Nat) : Int) + 128) :: enc (n / 128)).length - 1 = ((enc (n / 128)).length - 1) + 1 := by simp; omega
        rw [e] at hz
        simpa using hz
  obtain ⟨h0, h1, h2⟩ := key n
  have : lead (enc n ++ a) = (enc n).length - 1 := by
    refine lead_eq (fun i z hi hz => h1 i z hi ?_) (by rw [List.length_append]; omega) (by omega) (fun z _ hz => h2 z ?_)
    · rwa [List.getElem?_append_left (by omega)] at hz
    · rwa [List.getElem?_append_left (by omega)] at hz
  omega
theorem val_enc (n : Nat) : val (enc n) = n := by
  induction n using enc.induct with
  | case1 n h => rw [enc_lt h]; simp [val]; omega
  | case2 n h ih => rw [enc_ge h, val, ih]; omega
theorem enc_last (n : Nat) : ∀ z, (enc n)[(enc n).length - 1]? = some z → z < 128 ∧ (1 < (enc n).length → z ≠ 0) := by
  induction n using enc.induct with
  | case1 n h => intro z hz; rw [enc_lt h] at hz; simp at hz; rw [enc_lt h]; simp; omega
  | case2 n h ih =>
    intro z hz
    have hp := enc_pos (n / 128)
    rw [enc_ge h] at hz
    have e : ((((n % 128 : Nat) : Int) + 128) :: enc (n / 128)).length - 1 = ((enc (n / 128)).length - 1) + 1 := by simp; omega
    rw [e] at hz
    have hz' : (enc (n / 128))[(enc (n / 128)).length - 1]? = some z := by simpa using hz
    have hh := ih z hz'
    refine ⟨hh.1, fun _ => ?_⟩
    by_cases h1 : 1 < (enc (n / 128)).length
    · exact hh.2 h1
    · by_cases h2 : n / 128 < 128
      · rw [enc_lt h2] at hz'
        simp at hz'
        omega
      · exfalso; apply h1; rw [enc_ge h2]; have := enc_pos (n / 128 / 128); simp; omega
theorem val_split (l : List Int) (k : Nat) : val l = val (l.take k) + 128 ^ (l.take k).length * val (l.drop k) := by
  induction l generalizing k with
  | nil => simp [val]
  | cons x r ih =>
    cases k with
    | zero => simp [val]
    | succ k =>
      rw [List.take_succ_cons, List.drop_succ_cons, val, val, List.length_cons, Int.pow_succ, ih k, Int.mul_add, ← Int.mul_assoc, Int.mul_comm (128 ^ _) 128]
      omega

theorem rd_back (n : Nat) (a : List Int) (hn : n ≤ 18446744073709551615) (ha : ∀ z ∈ a, 0 ≤ z) :
    rdN (enc n ++ a) = n ∧ rdK (enc n ++ a) = ((enc n).length : Int) ∧ rdE (enc n ++ a) = 0 := by
  have hten := enc_ten hn
  have hl := lead_enc n a hten ha
  have hpos := enc_pos n
  have hget : (enc n ++ a)[lead (enc n ++ a)]? = (enc n)[(enc n).length - 1]? := by
    rw [List.getElem?_append_left (by omega), show lead (enc n ++ a) = (enc n).length - 1 by omega]
  obtain ⟨z, hz⟩ : ∃ z, (enc n)[(enc n).length - 1]? = some z := ⟨_, List.getElem?_eq_getElem (by omega)⟩
  have hla := enc_last n z hz
  have hd : (enc n ++ a).getD (lead (enc n ++ a)) 0 = z := by rw [List.getD_eq_getElem?_getD, hget, hz]; rfl
  have hb := enc_bytes n z (List.mem_of_getElem? hz)
  have htake : (enc n ++ a).take (lead (enc n ++ a) + 1) = enc n := by rw [hl, List.take_left']; rfl
  have hlast : lead (enc n ++ a) = 9 → ¬ 1 < z := by
    intro h9 h1
    have hv := val_enc n
    have hs := val_split (enc n) 9
    have hlen : (enc n).length = 10 := by omega
    have hdrop : (enc n).drop 9 = [z] := by
      rw [hlen] at hz
      have hz9 : (enc n)[9]? = some z := hz
      have hlt : 9 < (enc n).length := by omega
      rw [List.drop_eq_getElem_cons hlt, List.drop_eq_nil_of_le (by omega)]
      rw [List.getElem?_eq_getElem hlt] at hz9
      rw [Option.some.inj hz9]
    rw [hdrop, hv] at hs
    have hn9 := val_nonneg ((enc n).take 9)
    have hlt9 : ((enc n).take 9).length = 9 := by rw [List.length_take]; omega
    rw [hlt9] at hs
    simp only [val] at hs
    have hz128 : z % 128 = z := by omega
    rw [hz128] at hs
    omega
  have hcond : ¬ (lead (enc n ++ a) = 10 ∨ lead (enc n ++ a) = (enc n ++ a).length ∨ (lead (enc n ++ a) = 9 ∧ 1 < (enc n ++ a).getD (lead (enc n ++ a)) 0) ∨ (0 < lead (enc n ++ a) ∧ (enc n ++ a).getD (lead (enc n ++ a)) 0 = 0)) := by
    rw [hd]
    rintro (h | h | ⟨h, h'⟩ | ⟨h, h'⟩)
    · omega
    · rw [List.length_append] at h; omega
    · exact hlast h h'
    · exact hla.2 (by omega) h'
  refine ⟨?_, ?_, ?_⟩
  · unfold rdN; rw [if_neg hcond, htake, val_enc]
  · unfold rdK; rw [if_neg hcond]; rw [← hl]; rfl
  · unfold rdE
    rw [if_neg (fun h => hcond (.inl h)), if_neg (fun h => hcond (.inr (.inl h))), if_neg (fun h => hcond (.inr (.inr h)))]

/-- What is read as a number is its encoding. -/
theorem enc_val : ∀ (l : List Int), (∀ z ∈ l, 0 ≤ z ∧ z ≤ 255) → 1 ≤ l.length → (∀ i z, i + 1 < l.length → l[i]? = some z → 128 ≤ z) → (∀ z, l[l.length - 1]? = some z → z < 128 ∧ (1 < l.length → z ≠ 0)) → enc (val l).toNat = l := by
  intro l
  induction l with
  | nil => intro _ h; simp at h
  | cons x r ih =>
    intro hb _ h1 h2
    have hx := hb x (by simp)
    cases r with
    | nil =>
      have := h2 x rfl
      simp only [val]
      have e : (x % 128 + 128 * 0).toNat = x.toNat := by omega
      rw [e, enc_lt (by omega)]
      congr 1
      omega
    | cons y s =>
      have h128 : 128 ≤ x := h1 0 x (by simp) rfl
      have hr := ih (fun z hz => hb z (by simp [hz])) (by simp) (fun i z hi hz => h1 (i + 1) z (by simp at hi ⊢; omega) (by simpa using hz)) (fun z hz => by
        have := h2 z (by simpa using hz)
        exact ⟨this.1, fun _ => this.2 (by simp)⟩)
      have hv := val_nonneg (y :: s)
      have hne : 1 ≤ val (y :: s) := by
        by_cases h0 : val (y :: s) = 0
        · rw [h0, show (0 : Int).toNat = 0 from rfl, enc_lt (by omega)] at hr
          have hs : s = [] ∧ y = 0 := by
            injection hr with a b
            exact ⟨b.symm, by simpa using a.symm⟩
          obtain ⟨rfl, rfl⟩ := hs
          have := (h2 0 rfl).2 (by simp)
          exact absurd rfl this
        · omega
      rw [val, enc_ge (by omega)]
      congr 1
      · omega
      · rw [show (x % 128 + 128 * val (y :: s)).toNat / 128 = (val (y :: s)).toNat by omega]
        exact hr

theorem rd_unique (l : List Int) (hb : ∀ z ∈ l, 0 ≤ z ∧ z ≤ 255) (h : rdE l = 0) :
    ∃ k : Nat, rdK l = (k : Int) ∧ 1 ≤ k ∧ k ≤ l.length ∧ k ≤ 10 ∧ 0 ≤ rdN l ∧ rdN l ≤ 18446744073709551615 ∧ enc (rdN l).toNat = l.take k := by
  have hle := lead_le l
  unfold rdE at h
  split at h
  · cases h
  · split at h
    · cases h
    · split at h
      · cases h
      · rename_i h10 hlen hc
        have hcond : ¬ (lead l = 10 ∨ lead l = l.length ∨ (lead l = 9 ∧ 1 < l.getD (lead l) 0) ∨ (0 < lead l ∧ l.getD (lead l) 0 = 0)) := by
          rintro (h | h | h)
          · exact h10 h
          · exact hlen h
          · exact hc h
        have hlt : lead l < l.length := by omega
        obtain ⟨z, hz⟩ : ∃ z, l[lead l]? = some z := ⟨_, List.getElem?_eq_getElem hlt⟩
        have hd : l.getD (lead l) 0 = z := by rw [List.getD_eq_getElem?_getD, hz]; rfl
        rw [hd] at hc
        have hzb := hb z (List.mem_of_getElem? hz)
        have hspec := takeWhile_spec (fun z => decide (128 ≤ z)) (l.take 10)
        have hlead : ∀ i y, i < lead l → l[i]? = some y → 128 ≤ y := by
          intro i y hi hy
          have := hspec.1 i y hi (by rw [List.getElem?_take, if_pos (by omega)]; exact hy)
          simpa using this
        have hz128 : z < 128 := by
          have := hspec.2 z (by
            show (l.take 10)[lead l]? = some z
            rw [List.getElem?_take, if_pos (by omega)]; exact hz)
          simpa using this
        refine ⟨lead l + 1, ?_, by omega, by omega, by omega, ?_, ?_, ?_⟩
        · unfold rdK; rw [if_neg hcond]; rfl
        · unfold rdN; rw [if_neg hcond]; exact val_nonneg _
        · unfold rdN; rw [if_neg hcond]
          by_cases h9 : lead l = 9
          · have hs := val_snoc (l.take 9) z
            have hz9 : l[9]? = some z := by rw [← h9]; exact hz
            have ht : l.take (lead l + 1) = l.take 9 ++ [z] := by rw [h9, List.take_add_one, hz9]; rfl
            have hv := val_lt (l.take 9)
            have hl9 : (l.take 9).length = 9 := by rw [List.length_take]; omega
            rw [hl9] at hs hv
            rw [ht, hs]
            have : z ≤ 1 := by
              rcases Int.lt_or_le 1 z with h | h
              · exact absurd (.inl ⟨h9, h⟩) hc
              · exact h
            omega
          · have hv := val_lt (l.take (lead l + 1))
            have hll : (l.take (lead l + 1)).length = lead l + 1 := by rw [List.length_take]; omega
            rw [hll] at hv
            have : (128 : Int) ^ (lead l + 1) ≤ 128 ^ 9 := by
              have : (128 : Nat) ^ (lead l + 1) ≤ 128 ^ 9 := Nat.pow_le_pow_right (by omega) (by omega)
              exact_mod_cast this
            omega
        · unfold rdN
          rw [if_neg hcond]
          refine enc_val _ (fun y hy => hb y (List.mem_of_mem_take hy)) (by rw [List.length_take]; omega) (fun i y hi hy => ?_) (fun y hy => ?_)
          · rw [List.length_take] at hi
            rw [List.getElem?_take, if_pos (by omega)] at hy
            exact hlead i y (by omega) hy
          · have hll : (l.take (lead l + 1)).length = lead l + 1 := by rw [List.length_take]; omega
            rw [hll, List.getElem?_take, if_pos (by omega), Nat.add_sub_cancel, hz] at hy
            obtain rfl := Option.some.inj hy
            refine ⟨hz128, fun h1 h0 => hc (.inr ⟨by rw [hll] at h1; omega, h0⟩)⟩
end Go.Proofs.Ytbdafhephmoedaa

/- Contracts of varint.Append, varint.Size and of their specified results: each returns what the plain function gives in memory of its own. Conditions: the slice reads as bytes, the number fits 64 bits, the whole is at most 2^47 bytes. -/
namespace Go.Proofs.Ytbdafhephmoedaa
open Go.ChangeShapes Go.WideShapes Go.ChangeAt Go.RowKit
set_option linter.unusedVariables false
set_option maxRecDepth 100000

/-- A slice of bytes comes back that reads l; what was there is as it was. -/
def OutB (w : World) (l : List Int) (e : Ending) (w' : World) : Prop :=
  ∃ A n c, e = .returned (.slice A n c) ∧ Rd w' A n c l ∧ Below w.heap.size w w'

theorem ret_int {k : IntKind} {a b : Int} (h : a = b) : Ending.returned (.int k a) = .returned (.int k b) := by rw [h]

/-- What a loop of Size keeps. -/
def SizeK (n m s : Nat) : Prop := s + (enc m).length = (enc n).length + 1 ∧ s ≤ 10
theorem SizeK.next {n m s : Nat} (h : SizeK n m s) (hm : ¬ m < 128) (hn : n ≤ 18446744073709551615) : SizeK n (m / 128) (s + 1) := by
  have h1 := enc_ten hn
  have h2 := enc_pos (m / 128)
  have h3 := h.1
  rw [enc_ge hm, List.length_cons] at h3
  exact ⟨by omega, by omega⟩

theorem take_full (l : List Int) : l = l ++ [] := (List.append_nil l).symm
theorem OutB.of_own {w w' : World} {v : Value} {l : List Int} (h : Own w' w.heap.size v l) (hb : Below w.heap.size w w') : OutB w l (.returned v) w' := by
  obtain ⟨A, n, c, rfl, hr⟩ := h.form
  exact ⟨A, n, c, rfl, hr, hb⟩
/-- A row of bytes of the call's own comes back; what was there is as it was. -/
def OutO (w : World) (l : List Int) (e : Ending) (w' : World) : Prop :=
  ∃ v, e = .returned v ∧ Own w' w.heap.size v l ∧ Below w.heap.size w w'
theorem OutO.out {w w' : World} {l : List Int} {e : Ending} (h : OutO w l e w') : OutB w l e w' := by
  obtain ⟨v, rfl, h1, h2⟩ := h
  exact OutB.of_own h1 h2
theorem low7 (m : Nat) (hm : m ≤ 18446744073709551615) : bits .and .u64 (m : Int) 127 = (m : Int) % 128 :=
  bits_mask .u64 64 (by decide) wraps_u64 7 (by decide) _ (by omega) (by omega)

theorem group_byte (m : Nat) (hm : m ≤ 18446744073709551615) : bits .or .u8 (bits .and .u64 (m : Int) 127 % 256) 128 = ((m % 128 : Nat) : Int) + 128 := by
  rw [low7 m hm, u8_or128_right _ (by omega) (by omega)]
  omega
/-- What a loop of Append keeps. -/
def AppK (l : List Int) (n m : Nat) (r : List Int) : Prop := r ++ enc m = l ++ enc n
theorem AppK.len {l : List Int} {n m : Nat} {r : List Int} (h : AppK l n m r) (hn : n ≤ 18446744073709551615) : r.length + 1 ≤ l.length + 10 := by
  have h1 := congrArg List.length h
  have h2 := enc_pos m
  have h3 := enc_ten hn
  rw [List.length_append, List.length_append] at h1
  omega
theorem AppK.last {l : List Int} {n m : Nat} {r : List Int} (h : AppK l n m r) (hm : m < 128) : r ++ [(m : Int)] = l ++ enc n := by
  unfold AppK at h; rw [enc_lt hm] at h; exact h
theorem AppK.next {l : List Int} {n m : Nat} {r : List Int} (h : AppK l n m r) (hm : ¬ m < 128) : AppK l n (m / 128) (r ++ [((m % 128 : Nat) : Int) + 128]) := by
  unfold AppK at h ⊢; rw [enc_ge hm] at h; rw [List.append_assoc]; exact h

end Go.Proofs.Ytbdafhephmoedaa

/- Plain facts on events as bytes: what an event is encoded to, what the bytes at the beginning of a list are decoded to. No program here. Conditions: none beyond those typed. -/
namespace Go.Proofs.Ytbdafhephmoedaa
set_option linter.unusedVariables false
set_option linter.unusedSimpArgs false
set_option maxRecDepth 100000

/-- The bytes of a string. -/
def sB (s : ByteArray) : List Int := s.data.toList.map fun b => (b.toNat : Int)
theorem sB_len (s : ByteArray) : (sB s).length = s.size := by rw [ba_size]; simp [sB]
theorem sB_bytes (s : ByteArray) : ∀ z ∈ sB s, 0 ≤ z ∧ z ≤ 255 := by
  intro z hz
  obtain ⟨b, _, rfl⟩ := List.mem_map.1 hz
  have := b.toNat_lt
  omega
/-- The string of bytes. -/
def bS (l : List Int) : ByteArray := ⟨(l.map fun z => UInt8.ofNat z.toNat).toArray⟩
theorem bS_size (l : List Int) : (bS l).size = l.length := by rw [ba_size]; simp [bS]
theorem bS_sB (s : ByteArray) : bS (sB s) = s := by
  apply ByteArray.ext
  apply Array.toList_inj.1
  simp only [bS, sB, List.map_map]
  refine (List.map_congr_left (g := id) fun b _ => ?_).trans (by simp)
  simp
theorem sB_bS {l : List Int} (h : ∀ z ∈ l, 0 ≤ z ∧ z ≤ 255) : sB (bS l) = l := by
  simp only [bS, sB, List.map_map]
  refine (List.map_congr_left (g := id) fun z hz => ?_).trans (by simp)
  have := h z hz
  simp only [Function.comp, id, UInt8.toNat_ofNat']
  omega

def txt (s : ByteArray) : List Int := enc s.size ++ sB s
def tagB (t : Tg) : List Int := txt t.1 ++ txt t.2
def tagsB (l : List Tg) : List Int := l.flatMap tagB
def evB (l : List Tg) (t w : Int) : List Int := enc t.toNat ++ enc w.toNat ++ enc l.length ++ tagsB l
def longT (t : Tg) : Bool := decide (4096 < t.1.size) || decide (4096 < t.2.size)
def encE (l : List Tg) (t : Int) : Int := if t < 0 ∨ 1099511627776 < t then 1 else if 8 < l.length then 5 else if l.any longT then 4 else 0
def encB (l : List Tg) (t w : Int) : List Int := if encE l t = 0 then evB l t w else []

theorem encE_time {l : List Tg} {t : Int} (h : t < 0 ∨ 1099511627776 < t) : encE l t = 1 := if_pos h
theorem encE_many {l : List Tg} {t : Int} (h : ¬ (t < 0 ∨ 1099511627776 < t)) (h1 : 8 < l.length) : encE l t = 5 := by unfold encE; rw [if_neg h, if_pos h1]
theorem encE_long {l : List Tg} {t : Int} (h : ¬ (t < 0 ∨ 1099511627776 < t)) (h1 : ¬ 8 < l.length) (h2 : l.any longT = true) : encE l t = 4 := by unfold encE; rw [if_neg h, if_neg h1, if_pos h2]
theorem encE_ok {l : List Tg} {t : Int} (h : ¬ (t < 0 ∨ 1099511627776 < t)) (h1 : ¬ 8 < l.length) (h2 : l.any longT = false) : encE l t = 0 := by unfold encE; rw [if_neg h, if_neg h1, h2]; rfl
theorem encE_zero {l : List Tg} {t : Int} (h : encE l t = 0) : 0 ≤ t ∧ t ≤ 1099511627776 ∧ l.length ≤ 8 ∧ ∀ x ∈ l, x.1.size ≤ 4096 ∧ x.2.size ≤ 4096 := by
  unfold encE at h
  split at h
  · cases h
  · split at h
    · cases h
    · split at h
      · cases h
      · rename_i h1 h2 h3
        refine ⟨by omega, by omega, by omega, fun x hx => ?_⟩
        have := List.any_eq_false.1 (by simpa using h3) x hx
        simp [longT] at this
        exact this
theorem encB_no {l : List Tg} {t w : Int} (h : encE l t ≠ 0) : encB l t w = [] := if_neg h
theorem encB_yes {l : List Tg} {t w : Int} (h : encE l t = 0) : encB l t w = evB l t w := if_pos h
theorem txt_bytes (s : ByteArray) : ∀ z ∈ txt s, 0 ≤ z ∧ z ≤ 255 := fun z hz => by
  rcases List.mem_append.1 hz with h | h
  · exact enc_bytes _ z h
  · exact sB_bytes _ z h
theorem tagsB_bytes (l : List Tg) : ∀ z ∈ tagsB l, 0 ≤ z ∧ z ≤ 255 := fun z hz => by
  obtain ⟨t, _, ht⟩ := List.mem_flatMap.1 hz
  rcases List.mem_append.1 ht with h | h
  · exact txt_bytes _ z h
  · exact txt_bytes _ z h
theorem tagsB_snoc {l : List Tg} {k : Nat} {p q : ByteArray} (h : l[k]? = some (p, q)) : tagsB (l.take (k + 1)) = tagsB (l.take k) ++ (enc p.size ++ sB p) ++ (enc q.size ++ sB q) := by
  rw [List.take_add_one, h]
  simp [tagsB, tagB, txt]
theorem txt_len (s : ByteArray) (h : s.size ≤ 4096) : (txt s).length ≤ 4106 := by
  have := enc_ten (n := s.size) (by omega)
  unfold txt
  rw [List.length_append, sB_len]; omega
theorem tagsB_len : ∀ (l : List Tg), (∀ x ∈ l, x.1.size ≤ 4096 ∧ x.2.size ≤ 4096) → (tagsB l).length ≤ l.length * 8212
  | [], _ => by simp [tagsB]
  | t :: r, h => by
    have ih := tagsB_len r fun x hx => h x (by simp [hx])
    have ht := h t (by simp)
    have h1 := txt_len t.1 ht.1
    have h2 := txt_len t.2 ht.2
    have e : tagsB (t :: r) = txt t.1 ++ txt t.2 ++ tagsB r := by simp [tagsB, tagB]
    rw [e, List.length_append, List.length_append, List.length_cons]
    omega
theorem any_take {l : List Tg} {k : Nat} (h : (l.take k).any longT = false) (hl : l.length ≤ k) : l.any longT = false := by rwa [List.take_of_length_le hl] at h
theorem any_next {l : List Tg} {k : Nat} {p q : ByteArray} (h : (l.take k).any longT = false) (ht : l[k]? = some (p, q)) (hp : p.size ≤ 4096) (hq : q.size ≤ 4096) : (l.take (k + 1)).any longT = false := by
  rw [List.take_add_one, ht, List.any_append, h]
  simp [longT]; omega
theorem any_hit {l : List Tg} {k : Nat} {p q : ByteArray} (ht : l[k]? = some (p, q)) (hp : 4096 < p.size ∨ 4096 < q.size) : l.any longT = true := by
  rw [List.any_eq_true]
  refine ⟨(p, q), List.mem_of_getElem? ht, ?_⟩
  simp [longT]; omega
theorem any_sizes {l : List Tg} (h : l.any longT = false) : ∀ x ∈ l, x.1.size ≤ 4096 ∧ x.2.size ≤ 4096 := fun x hx => by
  have := List.any_eq_false.1 h x hx
  simp [longT] at this
  exact this

/-! ### reading -/
def numE (most over : Int) (l : List Int) : Int := if rdE l ≠ 0 then rdE l else if most < rdN l then over else 0
def numV (most over : Int) (l : List Int) : Int := if numE most over l = 0 then rdN l else 0
def numR (l : List Int) : List Int := l.drop (rdK l).toNat
def txtE (l : List Int) : Int := if numE 4096 4 l ≠ 0 then numE 4096 4 l else if ((numR l).length : Int) < rdN l then 2 else 0
def txtV (l : List Int) : ByteArray := if txtE l = 0 then bS ((numR l).take (rdN l).toNat) else ⟨#[]⟩
def txtR (l : List Int) : List Int := (numR l).drop (rdN l).toNat
/-- k tags: the error, the tags, the rest. -/
def tgsE : Nat → List Int → Int
  | 0, _ => 0
  | k + 1, l => if txtE l ≠ 0 then txtE l else if txtE (txtR l) ≠ 0 then txtE (txtR l) else tgsE k (txtR (txtR l))
def tgsV : Nat → List Int → List Tg
  | 0, _ => []
  | k + 1, l => (txtV l, txtV (txtR l)) :: tgsV k (txtR (txtR l))
def tgsR : Nat → List Int → List Int
  | 0, l => l
  | k + 1, l => tgsR k (txtR (txtR l))
/-- The rest behind time, weight and the number of tags. -/
def evR1 (l : List Int) : List Int := numR l
def evR2 (l : List Int) : List Int := numR (numR l)
def evR3 (l : List Int) : List Int := numR (numR (numR l))
def decE (l : List Int) : Int :=
  if numE 1099511627776 1 l ≠ 0 then numE 1099511627776 1 l else if numE 18446744073709551615 1 (evR1 l) ≠ 0 then numE 18446744073709551615 1 (evR1 l)
  else if numE 8 5 (evR2 l) ≠ 0 then numE 8 5 (evR2 l) else tgsE (rdN (evR2 l)).toNat (evR3 l)
def decT (l : List Int) : List Tg := if decE l = 0 then tgsV (rdN (evR2 l)).toNat (evR3 l) else []
def decM (l : List Int) : Int := if decE l = 0 then rdN l else 0
def decW (l : List Int) : Int := if decE l = 0 then rdN (evR1 l) else 0
def decR (l : List Int) : List Int := tgsR (rdN (evR2 l)).toNat (evR3 l)
def decN (l : List Int) : Int := if decE l = 0 then (l.length : Int) - (decR l).length else 0

theorem rd_top {l : List Int} (hb : ∀ z ∈ l, 0 ≤ z ∧ z ≤ 255) : 0 ≤ rdN l ∧ rdN l ≤ 18446744073709551615 := by
  by_cases h : rdE l = 0
  · obtain ⟨k, _, _, _, _, h0, h1, _⟩ := rd_unique l hb h
    exact ⟨h0, h1⟩
  · have : rdN l = 0 := by
      unfold rdN
      unfold rdE at h
      rw [if_pos]
      by_cases h1 : lead l = 10
      · exact .inl h1
      · rw [if_neg h1] at h
        by_cases h2 : lead l = l.length
        · exact .inr (.inl h2)
        · rw [if_neg h2] at h
          by_cases h3 : (lead l = 9 ∧ 1 < l.getD (lead l) 0) ∨ (0 < lead l ∧ l.getD (lead l) 0 = 0)
          · exact .inr (.inr h3)
          · rw [if_neg h3] at h; exact absurd rfl h
    omega
theorem rd_used {l : List Int} (hb : ∀ z ∈ l, 0 ≤ z ∧ z ≤ 255) (h : rdE l = 0) : 1 ≤ rdK l ∧ rdK l ≤ l.length := by
  obtain ⟨k, h1, h2, h3, _⟩ := rd_unique l hb h
  omega
theorem numR_bytes {l : List Int} (hb : ∀ z ∈ l, 0 ≤ z ∧ z ≤ 255) : ∀ z ∈ numR l, 0 ≤ z ∧ z ≤ 255 := fun z hz => hb z (List.mem_of_mem_drop hz)
theorem txtR_bytes {l : List Int} (hb : ∀ z ∈ l, 0 ≤ z ∧ z ≤ 255) : ∀ z ∈ txtR l, 0 ≤ z ∧ z ≤ 255 := fun z hz => numR_bytes hb z (List.mem_of_mem_drop hz)
theorem tgsV_len : ∀ (k : Nat) (l : List Int), (tgsV k l).length = k
  | 0, _ => rfl
  | k + 1, l => by simp [tgsV, tgsV_len k]

theorem numE_err {most over : Int} {l : List Int} (h : rdE l ≠ 0) : numE most over l = rdE l ∧ numV most over l = 0 := by
  have e : numE most over l = rdE l := if_pos h
  exact ⟨e, by unfold numV; rw [e, if_neg h]⟩
theorem numE_over {most over : Int} {l : List Int} (h : rdE l = 0) (h1 : most < rdN l) (h2 : over ≠ 0) : numE most over l = over ∧ numV most over l = 0 := by
  have e : numE most over l = over := by unfold numE; rw [if_neg (by simp [h]), if_pos h1]
  exact ⟨e, by unfold numV; rw [e, if_neg h2]⟩
theorem numE_ok {most over : Int} {l : List Int} (h : rdE l = 0) (h1 : ¬ most < rdN l) : numE most over l = 0 ∧ numV most over l = rdN l := by
  have e : numE most over l = 0 := by unfold numE; rw [if_neg (by simp [h]), if_neg h1]
  exact ⟨e, by unfold numV; rw [e, if_pos rfl]⟩
theorem numE_zero {most over : Int} {l : List Int} (h : numE most over l = 0) (h2 : over ≠ 0) : rdE l = 0 ∧ rdN l ≤ most ∧ numV most over l = rdN l := by
  unfold numE at h
  split at h
  · contradiction
  · split at h
    · exact absurd h h2
    · rename_i a b
      have a' : rdE l = 0 := by simpa using a
      exact ⟨a', by omega, (numE_ok a' (by omega)).2⟩

/-- A number is read back. -/
theorem num_back {most over : Int} (n : Nat) (a : List Int) (hn : n ≤ 18446744073709551615) (hm : (n : Int) ≤ most) (ha : ∀ z ∈ a, 0 ≤ z ∧ z ≤ 255) :
    numE most over (enc n ++ a) = 0 ∧ rdN (enc n ++ a) = n ∧ numR (enc n ++ a) = a := by
  obtain ⟨h1, h2, h3⟩ := rd_back n a hn fun z hz => (ha z hz).1
  refine ⟨(numE_ok h3 (by rw [h1]; omega)).1, h1, ?_⟩
  unfold numR
  rw [h2, Int.toNat_natCast, List.drop_left']
  rfl
theorem txt_back (s : ByteArray) (a : List Int) (hs : s.size ≤ 4096) (ha : ∀ z ∈ a, 0 ≤ z ∧ z ≤ 255) :
    txtE (txt s ++ a) = 0 ∧ txtV (txt s ++ a) = s ∧ txtR (txt s ++ a) = a := by
  have hb : ∀ z ∈ sB s ++ a, 0 ≤ z ∧ z ≤ 255 := fun z hz => by
    rcases List.mem_append.1 hz with h | h
    · exact sB_bytes _ z h
    · exact ha z h
  obtain ⟨h1, h2, h3⟩ := num_back (most := 4096) (over := 4) s.size (sB s ++ a) (by omega) (by omega) hb
  have e : txt s ++ a = enc s.size ++ (sB s ++ a) := by unfold txt; rw [List.append_assoc]
  rw [e]
  have hE : txtE (enc s.size ++ (sB s ++ a)) = 0 := by
    unfold txtE
    rw [if_neg (by simp [h1]), h3, h2, if_neg]
    rw [List.length_append, sB_len]; omega
  refine ⟨hE, ?_, ?_⟩
  · unfold txtV
    rw [if_pos hE, h3, h2, Int.toNat_natCast, List.take_left' (by rw [sB_len])]
    exact bS_sB s
  · unfold txtR
    rw [h3, h2, Int.toNat_natCast, List.drop_left' (by rw [sB_len])]
theorem tgs_back : ∀ (l : List Tg) (a : List Int), (∀ x ∈ l, x.1.size ≤ 4096 ∧ x.2.size ≤ 4096) → (∀ z ∈ a, 0 ≤ z ∧ z ≤ 255) →
    tgsE l.length (tagsB l ++ a) = 0 ∧ tgsV l.length (tagsB l ++ a) = l ∧ tgsR l.length (tagsB l ++ a) = a
  | [], a, _, _ => ⟨rfl, rfl, rfl⟩
  | t :: r, a, h, ha => by
    have ht := h t (by simp)
    have e : tagsB (t :: r) ++ a = txt t.1 ++ (txt t.2 ++ (tagsB r ++ a)) := by simp [tagsB, tagB]
    have hb1 : ∀ z ∈ tagsB r ++ a, 0 ≤ z ∧ z ≤ 255 := fun z hz => by
      rcases List.mem_append.1 hz with h | h
      · exact tagsB_bytes _ z h
      · exact ha z h
    have hb2 : ∀ z ∈ txt t.2 ++ (tagsB r ++ a), 0 ≤ z ∧ z ≤ 255 := fun z hz => by
      rcases List.mem_append.1 hz with h | h
      · exact txt_bytes _ z h
      · exact hb1 z h
    obtain ⟨a1, a2, a3⟩ := txt_back t.1 _ ht.1 hb2
    obtain ⟨b1, b2, b3⟩ := txt_back t.2 _ ht.2 hb1
    obtain ⟨c1, c2, c3⟩ := tgs_back r a (fun x hx => h x (by simp [hx])) ha
    rw [e]
    simp only [List.length_cons, tgsE, tgsV, tgsR, a1, a2, a3, b1, b2, b3, c1, c2, c3]
    simp
/-- An event that was encoded is decoded as it was, whatever follows it. -/
theorem dec_back {l : List Tg} {t w : Int} (a : List Int) (h : encE l t = 0) (hw : 0 ≤ w ∧ w ≤ 18446744073709551615) (ha : ∀ z ∈ a, 0 ≤ z ∧ z ≤ 255) :
    decE (evB l t w ++ a) = 0 ∧ decT (evB l t w ++ a) = l ∧ decM (evB l t w ++ a) = t ∧ decW (evB l t w ++ a) = w ∧ decN (evB l t w ++ a) = ((evB l t w).length : Int) := by
  obtain ⟨ht0, ht1, hl, hs⟩ := encE_zero h
  have e : evB l t w ++ a = enc t.toNat ++ (enc w.toNat ++ (enc l.length ++ (tagsB l ++ a))) := by simp [evB]
  have hb0 : ∀ z ∈ tagsB l ++ a, 0 ≤ z ∧ z ≤ 255 := fun z hz => by
    rcases List.mem_append.1 hz with h | h
    · exact tagsB_bytes _ z h
    · exact ha z h
  have hb1 : ∀ z ∈ enc l.length ++ (tagsB l ++ a), 0 ≤ z ∧ z ≤ 255 := fun z hz => by
    rcases List.mem_append.1 hz with h | h
    · exact enc_bytes _ z h
    · exact hb0 z h
  have hb2 : ∀ z ∈ enc w.toNat ++ (enc l.length ++ (tagsB l ++ a)), 0 ≤ z ∧ z ≤ 255 := fun z hz => by
    rcases List.mem_append.1 hz with h | h
    · exact enc_bytes _ z h
    · exact hb1 z h
  obtain ⟨a1, a2, a3⟩ := num_back (most := 1099511627776) (over := 1) t.toNat _ (by omega) (by omega) hb2
  obtain ⟨b1, b2, b3⟩ := num_back (most := 18446744073709551615) (over := 1) w.toNat _ (by omega) (by omega) hb1
  obtain ⟨c1, c2, c3⟩ := num_back (most := 8) (over := 5) l.length _ (by omega) (by omega) hb0
  obtain ⟨d1, d2, d3⟩ := tgs_back l a hs ha
  have hlen : (evB l t w ++ a).length = (evB l t w).length + a.length := List.length_append
  have hE : decE (evB l t w ++ a) = 0 := by
    rw [e]; unfold decE evR1 evR2 evR3
    rw [a1, a3, b1, b3, c1, c2, c3]
    simp [d1]
  refine ⟨hE, ?_, ?_, ?_, ?_⟩
  · unfold decT; rw [if_pos hE, e]; unfold evR2 evR3; rw [a3, b3, c2, c3, Int.toNat_natCast, d2]
  · unfold decM; rw [if_pos hE, e, a2]; omega
  · unfold decW; rw [if_pos hE, e]; unfold evR1; rw [a3, b2]; omega
  · unfold decN; rw [if_pos hE, hlen, e]; unfold decR evR2 evR3; rw [a3, b3, c2, c3, Int.toNat_natCast, d3]; omega
end Go.Proofs.Ytbdafhephmoedaa

/- Strings appended onto owned rows of bytes; event.appendText. Conditions: none beyond those typed. -/
namespace Go.Proofs.Ytbdafhephmoedaa
open Go.ChangeShapes Go.WideShapes Go.ChangeAt Go.RowKit
set_option linter.unusedVariables false
set_option linter.unusedSimpArgs false
set_option maxRecDepth 100000

theorem strCells_sB (s : ByteArray) : Lib.strCells s = (sB s).map (Value.int .u8) := by
  unfold Lib.strCells sB
  rw [List.map_map]
  rfl
theorem below_from {B : Nat} {w w' : World} (h : Below B w.drew w') : Below B w w' := ⟨h.os, h.tape, h.output, h.size, h.block⟩
section
variable {w w' : World} {base : Nat} {v : Value} {l : List Int}
theorem Own.weaken {base' : Nat} (h : Own w base v l) (hb : base' ≤ base) : Own w base' v l := by
  refine ⟨⟨h.1.1, ?_⟩, h.2⟩
  rcases h.1.2 with h0 | ⟨g, cap, cur, h1, h2, h3⟩
  · exact .inl h0
  · exact .inr ⟨g, cap, cur, h1, by omega, h3⟩
theorem Own.grown {row : Option Nat} (h : Own w base v l) (hg : w.grownBy w' row) (hr : v.ownBlock = none ∨ v.ownBlock ≠ row) : Own w' base v l := ⟨h.1.kept (row := row) hg hr, h.2⟩
/-- append of a string onto an owned row: the run. -/
theorem run_appS (base : Nat) (ty : TypeId) (v : Value) (l : List Int) (hown : Own w base v l) (s : ByteArray)
    (hbytes : l.length + s.size ≤ 140737488355328) (hbase : base ≤ w.heap.size) :
    ∃ v' w', (Builtin.append_ #[58, 9] ty #[v, .string s]).run Try.prog w = .ok v' w' ∧ Own w' base v' (l ++ sB s) ∧ w.grownBy w' v.ownBlock := by
  obtain ⟨i0, hi0, hz0, hz1, hz2⟩ := info_parts info_u8
  obtain ⟨hown, hlb⟩ := hown
  obtain ⟨v', w', hrun, h2, h3, _⟩ := Lib.run_append_own_string (P := Try.prog) w base 58 9 ty 5 i0 Try.underlying58 Try.underlying9 hi0 hz0 hz1 hz2 v _ _ hown s
    (by simp only [maxLen]; omega) (by omega) hbase
  refine ⟨v', w', hrun, ⟨?_, fun z hz => ?_⟩, h3⟩
  · rw [List.map_append, List.length_append, sB_len, ← strCells_sB]
    exact h2
  · rcases List.mem_append.1 hz with h | h
    · exact hlb z h
    · exact sB_bytes s z h
theorem wpList_appS {ops : Array Oper} {rest : List Oper} {o : Oper} {a : Act} {Q : Exit → Act → World → Prop} (hgd : o.guard = none) (x y : Operand)
    (ho : o.op = .call { callee := .builtin .append, args := #[x, y], argTypes := #[58, 9] })
    (base : Nat) (v : Value) (l : List Int) (hs : a.eval x = v) (s : ByteArray) (hx : a.eval y = .string s)
    (hown : Own w base v l) (hbytes : l.length + s.size ≤ 140737488355328) (hbase : base ≤ w.heap.size)
    (h : ∀ v' w', Own w' base v' (l ++ sB s) → w.grownBy w' v.ownBlock → wpList Try.prog ops Q rest (a.put o.dst v') w') :
    wpList Try.prog ops Q (o :: rest) a w :=
  wpList_plain hgd fun K hK => by
    obtain ⟨v', w', hr, h2, h3⟩ := run_appS base o.type v l hown s hbytes hbase
    unfold Oper.wp execOp
    simp only [ho, resolve, invoke, builtin, Sem.run_bind, Sem.run_pure, Result.andThen_ok, List.map_toArray, List.map_cons, List.map_nil, hs, hx, hr]
    exact hK _ _ (h v' w' h2 h3)
theorem step_appS {ops : Array Oper} {o : Oper} {a : Act} {K : Act → World → Prop} {Q : Exit → Act → World → Prop} {E : Prop} (hgd : o.guard = none) (x y : Operand)
    (ho : o.op = .call { callee := .builtin .append, args := #[x, y], argTypes := #[58, 9] })
    (base : Nat) (v : Value) (l : List Int) (hs : a.eval x = v) (s : ByteArray) (hx : a.eval y = .string s)
    (hown : Own w base v l) (hbytes : l.length + s.size ≤ 140737488355328) (hbase : base ≤ w.heap.size)
    (h : ∀ v' w', Own w' base v' (l ++ sB s) → w.grownBy w' v.ownBlock → K (a.put o.dst v') w') :
    if Region.wanted o (yielded ops a.tmps) = true then Oper.wp Try.prog o a w K Q else E := by
  have hw : Region.wanted o (yielded ops a.tmps) = true := by simp [Region.wanted, hgd]
  rw [if_pos hw]
  obtain ⟨v', w', hr, h2, h3⟩ := run_appS base o.type v l hown s hbytes hbase
  unfold Oper.wp execOp
  simp only [ho, resolve, invoke, builtin, Sem.run_bind, Sem.run_pure, Result.andThen_ok, List.map_toArray, List.map_cons, List.map_nil, hs, hx, hr]
  exact h v' w' h2 h3
end

end Go.Proofs.Ytbdafhephmoedaa

/- event.Encode and its twin: the bytes of an event, or the error. Conditions: none beyond those typed. -/
namespace Go.Proofs.Ytbdafhephmoedaa
open Go.ChangeShapes Go.WideShapes Go.ChangeAt Go.RowKit
set_option linter.unusedVariables false
set_option linter.unusedSimpArgs false
set_option maxRecDepth 100000

section
variable {w w' : World} {g : Nat} {A : Option Addr} {n c : Nat} {t x : Int}
end

def timeOk (t : Int) : Bool := decide (0 ≤ t ∧ t ≤ 1099511627776)
theorem timeOk_yes {t : Int} (h : ¬ (t < 0 ∨ 1099511627776 < t)) : timeOk t = true := decide_eq_true (by omega)
theorem timeOk_no {t : Int} (h : t < 0 ∨ 1099511627776 < t) : timeOk t = false := decide_eq_false (by omega)
/-- What encoding an event gives back. -/
def EncOut (l : List Tg) (t x : Int) (w : World) (e : Ending) (w' : World) : Prop :=
  ∃ A n c, e = .returned (.tuple #[.slice A n c, .int .i64 (encE l t)]) ∧ Rd w' A n c (encB l t x) ∧ Below w.heap.size w w'
theorem EncOut.err {l : List Tg} {t x z : Int} {w w' : World} (h : encE l t = z) (hz : z ≠ 0) (hb : Below w.heap.size w w') : EncOut l t x w (.returned (.tuple #[.slice none 0 0, .int .i64 z])) w' := by
  subst h
  exact ⟨none, 0, 0, rfl, by rw [encB_no hz]; exact Rd.nil _ _ _ (by simp [maxLen]), hb⟩
theorem EncOut.ok {l : List Tg} {t x : Int} {w w' : World} {v : Value} {base : Nat} (h : encE l t = 0) (hO : Own w' base v (evB l t x)) (hb : Below w.heap.size w w') : EncOut l t x w (.returned (.tuple #[v, .int .i64 0])) w' := by
  obtain ⟨A, n, c, rfl, hr⟩ := hO.form
  exact ⟨A, n, c, by rw [h], by rw [encB_yes h]; exact hr, hb⟩
def head3 (l : List Tg) (t x : Int) : List Int := enc t.toNat ++ enc x.toNat ++ enc l.length
theorem head3_len (l : List Tg) (t x : Int) (ht : 0 ≤ t ∧ t ≤ 1099511627776) (hx : 0 ≤ x ∧ x ≤ 18446744073709551615) (hl : l.length ≤ 1000) : (head3 l t x).length ≤ 30 := by
  have h1 := enc_ten (n := t.toNat) (by omega)
  have h2 := enc_ten (n := x.toNat) (by omega)
  have h3 := enc_ten (n := l.length) (by omega)
  unfold head3
  rw [List.length_append, List.length_append]; omega
theorem head3_next {l : List Tg} {t x : Int} {k : Nat} {p q : ByteArray} (h : l[k]? = some (p, q)) :
    head3 l t x ++ tagsB (l.take k) ++ (enc p.size ++ sB p) ++ (enc q.size ++ sB q) = head3 l t x ++ tagsB (l.take (k + 1)) := by
  rw [tagsB_snoc h]; simp only [List.append_assoc]
theorem head3_all {l : List Tg} {t x : Int} {k : Nat} (h : l.length ≤ k) : head3 l t x ++ tagsB (l.take k) = evB l t x := by
  rw [List.take_of_length_le h]; rfl
theorem tagsB_take_len {l : List Tg} (k : Nat) (h : ∀ x ∈ l, x.1.size ≤ 4096 ∧ x.2.size ≤ 4096) (hl : l.length ≤ 1000) : (tagsB (l.take k)).length ≤ 8212000 := by
  have h1 := tagsB_len (l.take k) fun x hx => h x (List.mem_of_mem_take hx)
  have h2 : (l.take k).length ≤ l.length := by rw [List.length_take]; omega
  omega

theorem fit3 {l e : List Int} {m : Nat} {s : ByteArray} (h : l.length = m) (he : e.length ≤ 10) (hb : m + 10 + s.size ≤ 140737488355328) : (l ++ e).length + s.size ≤ 140737488355328 := by
  rw [List.length_append]; omega
theorem tagsB_any_len {l : List Tg} {k : Nat} (h : (l.take k).any longT = false) (hl : l.length ≤ 1000) : (tagsB (l.take k)).length ≤ 8212000 := by
  have h1 := tagsB_len (l.take k) (any_sizes h)
  have h2 : (l.take k).length ≤ l.length := by rw [List.length_take]; omega
  omega
end Go.Proofs.Ytbdafhephmoedaa

/- event.Item, event.Verdict and their twins; heavykeysref01.SameEvent on equal events. Conditions: none beyond those typed. -/
namespace Go.Proofs.Ytbdafhephmoedaa
open Go.ChangeShapes Go.WideShapes Go.ChangeAt Go.RowKit
set_option linter.unusedVariables false
set_option linter.unusedSimpArgs false
set_option maxRecDepth 100000

theorem results_cell_row2 {P : Program} {fn : Func} {p u : Tmp} {ty : TypeId} (h : fn.results = #[.cell p ty, .tmp u]) (tmps : Array Value) (w : World) (g : Nat) (t : TypeId) (cs : Array Value) (fr : Nat × Nat) (d : TypeDesc)
    (hp : tmps.getD p undef = .pointer (some ⟨g, 0, none⟩)) (hg : w.heap[g]? = some (.cells cs t fr))
    (hu : P.underlying ty = some d) (hd : (match d with | .struct _ | .array _ _ => true | _ => false) = true) (hi : (P.info? ty).map (·.size) = some cs.size) :
    (results fn tmps).run P w = .ok (.tuple #[.agg cs, tmps.getD u undef]) w := by
  have hp' : tmps[p]?.getD undef = .pointer (some ⟨g, 0, none⟩) := by simpa using hp
  rw [results_cell_tmp h]
  simp [hp', asAddr, run_loadVar_row w g t ty cs fr d hg hu hd hi, Result.andThen]
theorem results_cell_row3 {P : Program} {fn : Func} {p u v : Tmp} {ty : TypeId} (h : fn.results = #[.cell p ty, .tmp u, .tmp v]) (tmps : Array Value) (w : World) (g : Nat) (t : TypeId) (cs : Array Value) (fr : Nat × Nat) (d : TypeDesc)
    (hp : tmps.getD p undef = .pointer (some ⟨g, 0, none⟩)) (hg : w.heap[g]? = some (.cells cs t fr))
    (hu : P.underlying ty = some d) (hd : (match d with | .struct _ | .array _ _ => true | _ => false) = true) (hi : (P.info? ty).map (·.size) = some cs.size) :
    (results fn tmps).run P w = .ok (.tuple #[.agg cs, tmps.getD u undef, tmps.getD v undef]) w := by
  have hp' : tmps[p]?.getD undef = .pointer (some ⟨g, 0, none⟩) := by simpa using hp
  simp [results, h, hp', asAddr, run_loadVar_row w g t ty cs fr d hg hu hd hi, Result.andThen, Sem.run_bind]

section
variable {w w' : World} {g : Nat} {s : ByteArray} {t x : Int}
end
theorem below_put3 {B : Nat} {w0 w : World} {g : Nat} (h : Below B w0 w) (hg : B ≤ g) (v0 v1 v2 : Value) : Below B w0 (((w.setCell ⟨g, 0, none⟩ v0).setCell ⟨g, 1, none⟩ v1).setCell ⟨g, 2, none⟩ v2) :=
  ((h.setCell (p := ⟨g, 0, none⟩) hg _).setCell (p := ⟨g, 1, none⟩) hg _).setCell (p := ⟨g, 2, none⟩) hg _

def itE (l : List Tg) (t x : Int) : Int := if (t < 0 ∨ 1099511627776 < t) ∨ (x < 1 ∨ 9223372036854775808 < x) then 1 else keyErr l
def itV (l : List Tg) (t x : Int) : Value := if itE l t x = 0 then .agg #[.string (keyBy l), .int .i64 t, .int .u64 x] else .agg #[.string ⟨#[]⟩, .int .i64 0, .int .u64 0]
theorem it_bad {l : List Tg} {t x : Int} (h : (t < 0 ∨ 1099511627776 < t) ∨ (x < 1 ∨ 9223372036854775808 < x)) : itE l t x = 1 ∧ itV l t x = .agg #[.string ⟨#[]⟩, .int .i64 0, .int .u64 0] := by
  have e : itE l t x = 1 := if_pos h
  exact ⟨e, by unfold itV; rw [e, if_neg (by decide)]⟩
theorem it_key {l : List Tg} {t x : Int} (h : ¬ ((t < 0 ∨ 1099511627776 < t) ∨ (x < 1 ∨ 9223372036854775808 < x))) (hk : keyErr l ≠ 0) : itE l t x = keyErr l ∧ itV l t x = .agg #[.string ⟨#[]⟩, .int .i64 0, .int .u64 0] := by
  have e : itE l t x = keyErr l := if_neg h
  exact ⟨e, by unfold itV; rw [e, if_neg hk]⟩
theorem it_ok {l : List Tg} {t x : Int} (h : ¬ ((t < 0 ∨ 1099511627776 < t) ∨ (x < 1 ∨ 9223372036854775808 < x))) (hk : keyErr l = 0) : itE l t x = 0 ∧ itV l t x = .agg #[.string (keyBy l), .int .i64 t, .int .u64 x] := by
  have e : itE l t x = 0 := (if_neg h).trans hk
  exact ⟨e, by unfold itV; rw [if_pos e]⟩
/-- What Item gives back. -/
def ItemOut (l : List Tg) (t x : Int) (w : World) (e : Ending) (w' : World) : Prop := e = .returned (.tuple #[itV l t x, .int .i64 (itE l t x)]) ∧ Below w.heap.size w w'
theorem ItemOut.mk' {l : List Tg} {t x z : Int} {v : Value} {w w' : World} (h : itE l t x = z ∧ itV l t x = v) (hb : Below w.heap.size w w') : ItemOut l t x w (.returned (.tuple #[v, .int .i64 z])) w' := by
  obtain ⟨rfl, rfl⟩ := h; exact ⟨rfl, hb⟩

def weightOk (x : Int) : Bool := decide (1 ≤ x ∧ x ≤ 9223372036854775808)
theorem weightOk_yes {t : Int} (h : ¬ (t < 1 ∨ 9223372036854775808 < t)) : weightOk t = true := decide_eq_true (by omega)
theorem weightOk_no {t : Int} (h : t < 1 ∨ 9223372036854775808 < t) : weightOk t = false := decide_eq_false (by omega)
def verd (e : Int) : Int := if e = 0 then 0 else if e = 4 then 2 else 1
end Go.Proofs.Ytbdafhephmoedaa

/- Append of bytes in a region that draws its order; rows of byte slices; == on items. Conditions: none beyond those typed. -/
namespace Go.Proofs.Ytbdafhephmoedaa
open Go.ChangeShapes Go.WideShapes Go.ChangeAt Go.RowKit
set_option linter.unusedVariables false
set_option linter.unusedSimpArgs false
set_option maxRecDepth 100000

theorem step_app {ops : Array Oper} {o : Oper} {a : Act} {w : World} {K : Act → World → Prop} {Q : Exit → Act → World → Prop} {E : Prop} (hgd : o.guard = none) (s x : Operand)
    (ho : o.op = .call { callee := .builtin .append, args := #[s, x], argTypes := #[58, 58] })
    (base : Nat) (v : Value) (l : List Int) (hs : a.eval s = v) (A : Option Addr) (m c : Nat) (xs : List Int) (hx : a.eval x = .slice A m c)
    (hown : Own w base v l) (hr : Rd w A m c xs)
    (hbytes : l.length + m ≤ 140737488355328) (hbase : base ≤ w.heap.size)
    (h : ∀ v' w', Own w' base v' (l ++ xs) → w.grownBy w' v.ownBlock → (v'.ownBlock = v.ownBlock ∨ v'.ownBlock = some w.heap.size) → K (a.put o.dst v') w') :
    if Region.wanted o (yielded ops a.tmps) = true then Oper.wp Try.prog o a w K Q else E := by
  have hw : Region.wanted o (yielded ops a.tmps) = true := by simp [Region.wanted, hgd]
  rw [if_pos hw]
  obtain ⟨v', w', hr, h2, h3, h4⟩ := run_app base o.type v l hown A m c xs hr hbytes hbase
  unfold Oper.wp execOp
  simp only [ho, resolve, invoke, builtin, Sem.run_bind, Sem.run_pure, Result.andThen_ok, List.map_toArray, List.map_cons, List.map_nil, hs, hx, hr]
  exact h v' w' h2 h3 h4
theorem Rd.grown {w w' : World} {A : Option Addr} {n c : Nat} {l : List Int} {row : Option Nat} (h : Rd w A n c l) (hg : w.grownBy w' row) (hne : ∀ b o, A = some ⟨b, o, none⟩ → some b ≠ row) : Rd w' A n c l :=
  ⟨h.1, h.2.1, h.2.2.1, h.2.2.2.1, fun j t ht => by
    obtain ⟨b, o, hA, h1⟩ := h.2.2.2.2 j t ht
    exact ⟨b, o, hA, hg.cell h1 (hne b o hA)⟩⟩
theorem step_appB {ops : Array Oper} {o : Oper} {a : Act} {w : World} {K : Act → World → Prop} {Q : Exit → Act → World → Prop} {E : Prop} (W1 : World) (hgd : o.guard = none) (s x : Operand)
    (ho : o.op = .call { callee := .builtin .append, args := #[s, x], argTypes := #[58, 58] })
    (v : Value) (l : List Int) (hs : a.eval s = v) (A : Option Addr) (m c : Nat) (xs : List Int) (hx : a.eval x = .slice A m c)
    (hown : Own w W1.heap.size v l) (hr : Rd w A m c xs) (hbytes : l.length + m ≤ 140737488355328) (hB : Below W1.heap.size W1 w)
    (h : ∀ v' w', Own w' W1.heap.size v' (l ++ xs) → Below W1.heap.size W1 w' → (∀ A n c l, Rd w A n c l → (∀ b o, A = some ⟨b, o, none⟩ → v.ownBlock ≠ some b) → Rd w' A n c l) → K (a.put o.dst v') w') :
    if Region.wanted o (yielded ops a.tmps) = true then Oper.wp Try.prog o a w K Q else E :=
  step_app hgd s x ho W1.heap.size v l hs A m c xs hx hown hr hbytes hB.size fun v' w' hO hg _ =>
    h v' w' hO (Below.app hB hown hg hB.size (Nat.le_refl _)) fun A n c l hr hne => hr.grown hg fun b o e => fun e' => hne b o e e'.symm
theorem Own.empty' {w : World} {B h : Nat} (e : h = w.heap.size) (hB : B ≤ w.heap.size) : Own (w.alloc (.cells #[] 5)) B (.slice (some ⟨h, 0, none⟩) 0 0) [] := by
  subst e; exact (Own.empty w).weaken hB
theorem Rd.one' {w : World} {h : Nat} {z : Int} (e : h = w.heap.size) (hz : 0 ≤ z ∧ z ≤ 255) : Rd (w.alloc (.cells #[.int .u8 z] 5)) (some ⟨h, 0, none⟩) 1 1 [z] := by
  subst e; exact Rd.one w _ z hz
theorem bd1 (w : World) (o : Obj) : Below w.heap.size w (w.drew.alloc o) := (Below.refl _ _).drew.alloc (Nat.le_refl _) o
theorem bd2 (w : World) (o o' : Obj) : Below w.heap.size w ((w.drew.alloc o).alloc o') := (bd1 w o).alloc (bd1 w o).size o'
/-- Block g holds N slices of bytes. -/
def Bys (W : World) (g N : Nat) : Prop := ∀ k, k < N → ∃ A n c l, W.cell? ⟨g, k, none⟩ = some (.slice A n c) ∧ Rd W A n c l
theorem Bys.below {W W' : World} {g N : Nat} (h : Bys W g N) (hb : Below W.heap.size W W') : Bys W' g N := by
  intro k hk
  obtain ⟨A, n, c, l, h0, h1⟩ := h k hk
  exact ⟨A, n, c, l, (hb.cell (World.block_lt_of_cell? _ _ h0)).trans h0, h1.below hb⟩
theorem Bys.five {W : World} {A0 A1 A2 A3 A4 : Option Addr} {n0 n1 n2 n3 n4 c0 c1 c2 c3 c4 : Nat} {l0 l1 l2 l3 l4 : List Int} {t : TypeId} (h0 : Rd W A0 n0 c0 l0) (h1 : Rd W A1 n1 c1 l1) (h2 : Rd W A2 n2 c2 l2) (h3 : Rd W A3 n3 c3 l3) (h4 : Rd W A4 n4 c4 l4) :
    Bys (W.alloc (.cells #[.slice A0 n0 c0, .slice A1 n1 c1, .slice A2 n2 c2, .slice A3 n3 c3, .slice A4 n4 c4] t)) W.heap.size 5 := by
  intro k hk
  match k, hk with
  | 0, _ => exact ⟨A0, n0, c0, l0, by rw [World.cell?_alloc_at _ _ _ _ rfl]; rfl, h0.alloc _⟩
  | 1, _ => exact ⟨A1, n1, c1, l1, by rw [World.cell?_alloc_at _ _ _ _ rfl]; rfl, h1.alloc _⟩
  | 2, _ => exact ⟨A2, n2, c2, l2, by rw [World.cell?_alloc_at _ _ _ _ rfl]; rfl, h2.alloc _⟩
  | 3, _ => exact ⟨A3, n3, c3, l3, by rw [World.cell?_alloc_at _ _ _ _ rfl]; rfl, h3.alloc _⟩
  | 4, _ => exact ⟨A4, n4, c4, l4, by rw [World.cell?_alloc_at _ _ _ _ rfl]; rfl, h4.alloc _⟩
theorem itV_form (l : List Tg) (t x : Int) : ∃ s p q, itV l t x = .agg #[.string s, .int .i64 p, .int .u64 q] := by
  unfold itV
  split
  · exact ⟨_, _, _, rfl⟩
  · exact ⟨_, _, _, rfl⟩
end Go.Proofs.Ytbdafhephmoedaa
