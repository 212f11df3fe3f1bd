/- The statements about package arena: two. Conditions: the program's arena keeps its contracts (ProgA). -/
import Derived.Test.YtfcnmbahcdpcaaaJawake
namespace Go.Proofs.Ytfcnmbahcdpcaaa
open Go.ChangeShapes Go.WideShapes Go.ChangeAt Go.RowKit
set_option linter.unusedVariables false
set_option linter.unusedSimpArgs false
set_option maxRecDepth 100000

theorem MadeL.bd {L : List (Int × Int)} (h : MadeL L) : ∀ x ∈ L, I64 x.1 ∧ I64 x.2 := fun x hx => by have := h.sm x hx; simp only [I64]; omega
theorem rng_apart {c : Nat} : Rng 16 c → ¬ Rng 32 c := fun h h' => by have := h.2; have := h'.1; omega
theorem rng_apart' {c : Nat} : Rng 32 c → ¬ Rng 16 c := fun h h' => by have := h'.2; have := h.1; omega
/-- Both arenas are there. -/
def TwoOut (PA : Rep) (w0 : World) (e : Ending) (W' : World) : Prop :=
  ∃ L ga gb col, e = .returned (.tuple #[.pointer (some ⟨ga, 0, none⟩), .pointer (some ⟨gb, 0, none⟩), .bool true]) ∧ MadeL L ∧ AtP PA w0 col W' 16 ga (newA L) ∧ RefA col 32 W' gb (newA L)
set_option maxHeartbeats 1000000 in
theorem two_any {PA : Rep} (HP : ProgA PA) {w0 W : World} {g n c : Nat} {A : Option Addr} (h : Dk w0 W g A n c) : Calls Try.prog 19 #[.pointer (some ⟨g, 0, none⟩)] W (TwoOut PA w0) := by
  have hge := h.ge
  have hlow := h.low
  go_enter Try.func19, Try.ntmps19
  go_wp2_with fail
  refine (classes_dk h).mono ?_
  rintro e W1 ⟨A1, m, c1, L, rfl, hR, _, hM, _, hg⟩
  have hm := hR.len
  have hm4 := hM.n4
  have S1 : Since w0 (fun _ => 0) W1 := ⟨hlow.grown hg hlow.size (fun q e => by injection e with e; omega), fun _ _ => rfl, fun _ _ => rfl⟩
  have R1 : RdK0 kC (fun _ => 0) W1 A1 m c1 L := ⟨hR, fun _ _ _ _ _ => rfl⟩
  clear h hge hlow hg hR
  go_wp2_with fail
  refine (HP.new (k := 16) S1.tidy (by omega) R1.rd (by omega) hM.bd).mono ?_
  rintro e W2 (⟨_, ga, rfl, hd⟩ | ⟨h0, _⟩)
  rotate_left
  · exact absurd hM.ok h0
  obtain ⟨col2, p2, s2⟩ := hd
  have R2 := R1.keep s2 (rng0 (by omega))
  have S2 := S1.step s2 (rng0 (by omega))
  clear R1 S1 s2
  go_wp2_with fail
  refine (arNew (k := 32) S2.tidy (by omega) A1 m c1 L R2.rd (by omega) (fun x hx => by have := hM.bd x hx; simp only [I64] at this; exact ⟨this.1.1, this.1.2, this.2.1, this.2.2⟩)).mono ?_
  rintro e W3 (⟨_, gb, rfl, hd⟩ | ⟨h0, _⟩)
  rotate_left
  · exact absurd hM.ok h0
  obtain ⟨col3, p3, s3⟩ := hd
  have S3 := S2.step s3 (rng0 (by omega))
  have P3 := HP.keep p2 s3 (fun c => rng_apart) (rng0 (by omega))
  have HP3 := Lib.hid P3
  have HQ3 := Lib.hid p3
  clear R2 S2 s3 p2 P3 p3
  go_wp2
  go_ret3
  exact ⟨L, ga, gb, col3, rfl, hM, ⟨S3, HP3.out⟩, HQ3.out⟩
end Go.Proofs.Ytfcnmbahcdpcaaa
