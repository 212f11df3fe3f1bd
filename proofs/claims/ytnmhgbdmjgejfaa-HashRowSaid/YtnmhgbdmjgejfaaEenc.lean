/- event.Encode and its twin: the bytes of an event, or the error. Conditions: none beyond those typed. -/
import Derived.Test.YtnmhgbdmjgejfaaEtext
import Derived.Test.YtnmhgbdmjgejfaaTwords
import Derived.Deep.RegionHeld3
namespace Go.Proofs.Ytnmhgbdmjgejfaa
open Go.ChangeShapes Go.WideShapes Go.ChangeAt Go.RowKit
set_option linter.unusedVariables false
set_option linter.unusedSimpArgs false
set_option maxRecDepth 100000

section
variable {w w' : World} {g : Nat} {A : Option Addr} {n c : Nat} {t x : Int}
end

def timeOk (t : Int) : Bool := decide (0 ≤ t ∧ t ≤ 1099511627776)
theorem timeOk_yes {t : Int} (h : ¬ (t < 0 ∨ 1099511627776 < t)) : timeOk t = true := decide_eq_true (by omega)
theorem timeOk_no {t : Int} (h : t < 0 ∨ 1099511627776 < t) : timeOk t = false := decide_eq_false (by omega)
/-- What encoding an event gives back. -/
def EncOut (l : List Tg) (t x : Int) (w : World) (e : Ending) (w' : World) : Prop :=
  ∃ A n c, e = .returned (.tuple #[.slice A n c, .int .i64 (encE l t)]) ∧ Rd w' A n c (encB l t x) ∧ Below w.heap.size w w'
theorem EncOut.err {l : List Tg} {t x z : Int} {w w' : World} (h : encE l t = z) (hz : z ≠ 0) (hb : Below w.heap.size w w') : EncOut l t x w (.returned (.tuple #[.slice none 0 0, .int .i64 z])) w' := by
  subst h
  exact ⟨none, 0, 0, rfl, by rw [encB_no hz]; exact Rd.nil _ _ _ (by simp [maxLen]), hb⟩
theorem EncOut.ok {l : List Tg} {t x : Int} {w w' : World} {v : Value} {base : Nat} (h : encE l t = 0) (hO : Own w' base v (evB l t x)) (hb : Below w.heap.size w w') : EncOut l t x w (.returned (.tuple #[v, .int .i64 0])) w' := by
  obtain ⟨A, n, c, rfl, hr⟩ := hO.form
  exact ⟨A, n, c, by rw [h], by rw [encB_yes h]; exact hr, hb⟩
def head3 (l : List Tg) (t x : Int) : List Int := enc t.toNat ++ enc x.toNat ++ enc l.length
theorem head3_len (l : List Tg) (t x : Int) (ht : 0 ≤ t ∧ t ≤ 1099511627776) (hx : 0 ≤ x ∧ x ≤ 18446744073709551615) (hl : l.length ≤ 1000) : (head3 l t x).length ≤ 30 := by
  have h1 := enc_ten (n := t.toNat) (by omega)
  have h2 := enc_ten (n := x.toNat) (by omega)
  have h3 := enc_ten (n := l.length) (by omega)
  unfold head3
  rw [List.length_append, List.length_append]; omega
theorem head3_next {l : List Tg} {t x : Int} {k : Nat} {p q : ByteArray} (h : l[k]? = some (p, q)) :
    head3 l t x ++ tagsB (l.take k) ++ (enc p.size ++ sB p) ++ (enc q.size ++ sB q) = head3 l t x ++ tagsB (l.take (k + 1)) := by
  rw [tagsB_snoc h]; simp only [List.append_assoc]
theorem head3_all {l : List Tg} {t x : Int} {k : Nat} (h : l.length ≤ k) : head3 l t x ++ tagsB (l.take k) = evB l t x := by
  rw [List.take_of_length_le h]; rfl
theorem tagsB_take_len {l : List Tg} (k : Nat) (h : ∀ x ∈ l, x.1.size ≤ 4096 ∧ x.2.size ≤ 4096) (hl : l.length ≤ 1000) : (tagsB (l.take k)).length ≤ 8212000 := by
  have h1 := tagsB_len (l.take k) fun x hx => h x (List.mem_of_mem_take hx)
  have h2 : (l.take k).length ≤ l.length := by rw [List.length_take]; omega
  omega

theorem fit3 {l e : List Int} {m : Nat} {s : ByteArray} (h : l.length = m) (he : e.length ≤ 10) (hb : m + 10 + s.size ≤ 140737488355328) : (l ++ e).length + s.size ≤ 140737488355328 := by
  rw [List.length_append]; omega
theorem tagsB_any_len {l : List Tg} {k : Nat} (h : (l.take k).any longT = false) (hl : l.length ≤ 1000) : (tagsB (l.take k)).length ≤ 8212000 := by
  have h1 := tagsB_len (l.take k) (any_sizes h)
  have h2 : (l.take k).length ≤ l.length := by rw [List.length_take]; omega
  omega
end Go.Proofs.Ytnmhgbdmjgejfaa
