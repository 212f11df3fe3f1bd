/- What the statements about package event share: awake, plain; and EventVerdict. Conditions: none beyond those typed. -/
import Derived.Test.YtbbmjmelbhdgeaaEitem
namespace Go.Proofs.Ytbbmjmelbhdgeaa
open Go.ChangeShapes Go.WideShapes Go.ChangeAt Go.RowKit
set_option linter.unusedVariables false
set_option linter.unusedSimpArgs false
set_option maxRecDepth 100000

def tagAB : List Tg := [(⟨#[97]⟩, ⟨#[98]⟩)]
theorem encAB : encE tagAB 5 = 0 := by decide
theorem bytesAB : encB tagAB 5 300 = [5, 172, 2, 1, 1, 97, 1, 98] := by
  rw [encB_yes encAB]
  have h1 : enc (5 : Int).toNat = [5] := enc_lt (by decide)
  have h2 : enc (300 : Int).toNat = [172, 2] := by rw [show (300 : Int).toNat = 300 from rfl, enc_ge (by omega), enc_lt (by omega)]; rfl
  have h3 : enc 1 = [1] := enc_lt (by decide)
  have h4 : enc tagAB.length = [1] := h3
  unfold evB
  rw [h1, h2, h4]
  have h5 : tagsB tagAB = enc 1 ++ [97] ++ (enc 1 ++ [98]) := by simp [tagsB, tagAB, tagB, txt, sB, ByteArray.size]
  rw [h5, h3]
  rfl
set_option maxHeartbeats 1000000 in
theorem awake_any (w : World) : Calls Try.prog 10 #[] w (Yes w) := by
  have hR := RdT.lit w tagAB (by decide) (by decide)
  have hB0 : Below w.heap.size w (w.alloc (.cells (cellsT tagAB).toArray 35)) := (Below.refl _ _).alloc (Nat.le_refl _) _
  go_enter Try.func10, Try.ntmps10
  go_wp2_with fail
  refine (encode_any _ _ _ tagAB _ _ _ hR (by decide) (by decide)).mono ?_
  rintro e w1 ⟨A, n, c, rfl, hr, hb⟩
  rw [encAB]
  rw [bytesAB] at hr
  obtain rfl : n = 8 := hr.len.symm
  have hb1 := below_then hB0 hb
  have hL := Rd.lit [5, 172, 2, 1, 1, 97, 1, 98] w1 (by simp) (by simp [maxLen])
  have hb2 := hb1.alloc hb1.size (.cells (([5, 172, 2, 1, 1, 97, 1, 98] : List Int).map (Value.int .u8)).toArray 5)
  go_wp2_with fail
  refine (same_yes _ _ _ _ _ _ _ (hr.alloc _) hL).mono ?_
  rintro e w2 ⟨rfl, j, rfl⟩
  have hb3 := below_drewN hb2 j
  go_wp2
  go_ret
  exact ⟨rfl, hb3⟩

def plainT (l : List Tg) : Bool := l.all fun t => decide (t.1.size ≤ 200) && decide (t.2.size ≤ 200)
def plainB (n : Nat) (l : List Tg) : Bool := decide (n ≤ 12) && plainT l
theorem plain_zero (l : List Tg) : plainT (l.take 0) = true := by simp [plainT]
theorem plain_next {l : List Tg} {k : Nat} {p q : ByteArray} (h : plainT (l.take k) = true) (ht : l[k]? = some (p, q)) (hp : p.size ≤ 200) (hq : q.size ≤ 200) : plainT (l.take (k + 1)) = true := by
  unfold plainT at *
  rw [List.take_add_one, ht, List.all_append, h]
  simp; omega
theorem plain_hit {n : Nat} {l : List Tg} {k : Nat} {p q : ByteArray} (ht : l[k]? = some (p, q)) (h : 200 < p.size ∨ 200 < q.size) : plainB n l = false := by
  unfold plainB plainT
  rw [Bool.and_eq_false_iff]
  right
  rw [List.all_eq_false]
  refine ⟨(p, q), List.mem_of_getElem? ht, ?_⟩
  simp; omega
theorem plain_many {n : Nat} {l : List Tg} (h : 12 < n) : plainB n l = false := by unfold plainB; rw [decide_eq_false (by omega)]; rfl
theorem plain_all {n : Nat} {l : List Tg} {k : Nat} (h : plainT (l.take k) = true) (hk : l.length ≤ k) (hn : n ≤ 12) : plainB n l = true := by
  rw [List.take_of_length_le hk] at h
  unfold plainB; rw [h, decide_eq_true hn]; rfl
theorem plain_true {n : Nat} {l : List Tg} (h : plainB n l = true) : n ≤ 12 ∧ ∀ t ∈ l, t.1.size ≤ 200 ∧ t.2.size ≤ 200 := by
  unfold plainB plainT at h
  rw [Bool.and_eq_true] at h
  refine ⟨of_decide_eq_true h.1, fun t ht => ?_⟩
  have := List.all_eq_true.1 h.2 t ht
  simpa using this
theorem ArgT.plain {w : World} {A : Option Addr} {n c : Nat} {l : List Tg} (h : ArgT w A n c l) (hp : plainB n l = true) : RdT w A n c l ∧ n ≤ 12 :=
  ⟨⟨h.1, h.2.1, h.2.2.1, fun t ht => by have := (plain_true hp).2 t ht; omega, h.2.2.2.2⟩, (plain_true hp).1⟩
set_option maxHeartbeats 1000000 in
theorem plain_any (A : Option Addr) (n c : Nat) (l : List Tg) (t x : Int) (w : World) (hR : ArgT w A n c l) :
    Calls Try.prog 9 #[.agg #[.slice A n c, .int .i64 t, .int .u64 x]] w fun e w' => e = .returned (.bool (plainB n l)) ∧ Below w.heap.size w w' := by
  have hln := Lib.hid hR.1
  have hmx : c ≤ 9223372036854775807 := hR.2.2.1
  have hcp := hR.2.1
  by_cases h12 : 12 < n
  · have H := Lib.hid (plain_many (l := l) h12)
    go_enter Try.func9, Try.ntmps9
    go_wp2
    go_ret
    exact ⟨ret_bool H.out.symm, (Below.refl _ _).alloc (Nat.le_refl _) _⟩
  · have hn : n ≤ 12 := by omega
    clear h12
    go_enter Try.func9, Try.ntmps9
    go_wp2
    go_loopw [12] (fun i W => ∃ k : Nat, k ≤ n ∧ plainT (l.take k) = true ∧ Below w.heap.size w W ∧ i = .int .i64 k) (fun i _ => n - (intOf i).toNat)
    case atStart => exact ⟨0, by omega, plain_zero l, (Below.refl _ _).alloc (Nat.le_refl _) _, rfl⟩
    case round =>
      obtain ⟨k, hk, hA, hb, rfl⟩ := hrel
      have hRw := hR.below hb
      by_cases hlt : k < n
      · obtain ⟨b, o, p, q, rfl, hg, hp, hq, hbl, h1, h2⟩ := hRw.at_ hlt
        by_cases hp4 : p.size ≤ 200
        · by_cases hq4 : q.size ≤ 200
          · have HN := Lib.hid (plain_next hA hg hp4 hq4)
            clear hg hA
            go_wp2
            go_roundw
            case rel => exact ⟨k + 1, by omega, HN.out, hb.alloc hb.size _, by go_num⟩
            case measure => simp [intOf]; omega
          · have HN := Lib.hid (plain_hit (n := n) hg (.inr (by omega)))
            clear hg hA
            go_wp2
            go_ret
            exact ⟨ret_bool HN.out.symm, hb.alloc hb.size _⟩
        · have HN := Lib.hid (plain_hit (n := n) hg (.inl (by omega)))
          clear hg hA
          go_wp2
          go_ret
          exact ⟨ret_bool HN.out.symm, hb.alloc hb.size _⟩
      · have HN := Lib.hid (plain_all hA (by have := hln.out; omega) hn)
        clear hA
        go_wp2
        go_ret
        exact ⟨ret_bool HN.out.symm, hb⟩

set_option maxHeartbeats 1000000 in
theorem eventVerdict_walk (x : Int) (w : World) (h1 : -9223372036854775808 ≤ x) (h2 : x ≤ 9223372036854775807) :
    Calls Try.prog 6 #[.int .i64 x] w (Yes w) := by
  go_enter Try.func6, Try.ntmps6
  go_wp2_with fail
  refine (verdict_any _ _).mono ?_
  rintro e w1 ⟨rfl, rfl⟩
  go_wp2_with fail
  refine (rverdict_any _ _).mono ?_
  rintro e w1 ⟨rfl, rfl⟩
  go_wp2_with fail
  refine (verdict_any _ _).mono ?_
  rintro e w1 ⟨rfl, rfl⟩
  go_wp2_with fail
  refine (rverdict_any _ _).mono ?_
  rintro e w1 ⟨rfl, rfl⟩
  go_wp2_with fail
  refine (verdict_any _ _).mono ?_
  rintro e w1 ⟨rfl, rfl⟩
  rw [show verd 0 = 0 from rfl]
  go_wp2_with fail
  refine (awake_any _).mono ?_
  rintro e w1 ⟨rfl, hb⟩
  go_wp2
  go_ret
  exact ⟨rfl, hb⟩
end Go.Proofs.Ytbbmjmelbhdgeaa
