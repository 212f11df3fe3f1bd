/- The statements about package pool: two (a pool in an arena, and the specified ones). Conditions: the program's arena keeps its contracts (ProgA). -/
import Derived.Test.YtenchaifnfgijaaNdeck
import Derived.Test.YtenchaifnfgijaaNnew
import Derived.Test.YtenchaifnfgijaaQref4
namespace Go.Proofs.Ytenchaifnfgijaa
open Go.ChangeShapes Go.WideShapes Go.ChangeAt Go.RowKit
set_option linter.unusedVariables false
set_option linter.unusedSimpArgs false
set_option maxRecDepth 100000

theorem ap34 : Apart 48 64 := ⟨by omega, by omega, by omega⟩
/-- A deck, the program's pool and its arena, the specified pool and its arena. -/
structure PairQ (PA : Rep) (w : World) (gd : Nat) (A : Option Addr) (m d g ga gq gb : Nat) (col : Col) (q r : PSt) (x y : ASt) (W : World) : Prop where
  ds : DkS w col W gd A m d
  pq : PqR col 16 W g ga q
  pa : PA col 32 W ga x
  rq : RefQ col 48 W gq gb r
  ra : RefA col 64 W gb y
/-- The two sides say the same. -/
structure SameQ (q : PSt) (x y : ASt) (T : Nat) : Prop where
  lnk : Lnk q x
  al : Alike x y
  t : x.t ≤ T ∧ y.t ≤ T ∧ q.t ≤ T
section
variable {PA : Rep} {w W W' : World} {col col' : Col} {gd g ga gq gb m d T : Nat} {A : Option Addr} {P : Nat → Prop} {q q' r r' : PSt} {x x' y y' : ASt}
theorem PairQ.tidy (h : PairQ PA w gd A m d g ga gq gb col q r x y W) : Tidy col W := h.ds.tidy
theorem PairQ.below (HP : ProgA PA) (h : PairQ PA w gd A m d g ga gq gb col q r x y W) (hb : Below W.heap.size W W') : PairQ PA w gd A m d g ga gq gb col q r x y W' :=
  have s : StepC (fun _ => False) col W col W' := StepC.below h.tidy hb
  ⟨h.ds.below hb, h.pq.keep s (fun _ _ h => h), HP.keep h.pa s (fun _ _ h => h) (fun h => h), h.rq.keep s (fun _ _ h => h), h.ra.keep s (fun _ _ h => h) (fun h => h)⟩
theorem no16 {c n k : Nat} (hn : n ≤ 2) (hk : 16 ≤ k) (h : Rng k c) : ¬ c = n := by have := h.1; omega
theorem PairQ.deck (HP : ProgA PA) (h : PairQ PA w gd A m d g ga gq gb col q r x y W) (hD : Dk w W' gd A m d) (hg : W.grownBy W' (some gd)) : PairQ PA w gd A m d g ga gq gb col q r x y W' := by
  obtain ⟨hS, s⟩ := h.ds.deck hD hg
  exact ⟨hS, h.pq.keep s (fun c => no16 (by omega) (by omega)), HP.keep h.pa s (fun c => no16 (by omega) (by omega)) (by omega), h.rq.keep s (fun c => no16 (by omega) (by omega)), h.ra.keep s (fun c => no16 (by omega) (by omega)) (by omega)⟩
theorem PairQ.did1 (HP : ProgA PA) (h : PairQ PA w gd A m d g ga gq gb col q r x y W) (hd : DidQ PA col 16 32 W g ga q' x' W') : ∃ col', PairQ PA w gd A m d g ga gq gb col' q' r x' y W' := by
  obtain ⟨col', h1, h2, s⟩ := hd
  have n3 : ∀ c, Rng 48 c → ¬ (Rng 16 c ∨ Rng 32 c) := fun c h1 h2 => by have := h1.1; rcases h2 with h2 | h2 <;> (have := h2.2; omega)
  have n4 : ∀ c, Rng 64 c → ¬ (Rng 16 c ∨ Rng 32 c) := fun c h1 h2 => by have := h1.1; rcases h2 with h2 | h2 <;> (have := h2.2; omega)
  exact ⟨col', h.ds.step s (no12 (by omega)) (no12 (by omega)), h1, h2, h.rq.keep s n3, h.ra.keep s n4 (no12 (by omega))⟩
theorem PairQ.did2 (HP : ProgA PA) (h : PairQ PA w gd A m d g ga gq gb col q r x y W) (hd : DidRQ col 48 64 W gq gb r' y' W') : ∃ col', PairQ PA w gd A m d g ga gq gb col' q r' x y' W' := by
  obtain ⟨col', h1, h2, s⟩ := hd
  have n1 : ∀ c, Rng 16 c → ¬ (Rng 48 c ∨ Rng 64 c) := fun c h1 h2 => by have := h1.2; rcases h2 with h2 | h2 <;> (have := h2.1; omega)
  have n2 : ∀ c, Rng 32 c → ¬ (Rng 48 c ∨ Rng 64 c) := fun c h1 h2 => by have := h1.2; rcases h2 with h2 | h2 <;> (have := h2.1; omega)
  have nn : ∀ n, n ≤ 2 → ¬ (Rng 48 n ∨ Rng 64 n) := fun n hn h2 => by rcases h2 with h2 | h2 <;> (have := h2.1; omega)
  exact ⟨col', h.ds.step s (nn 1 (by omega)) (nn 0 (by omega)), h.pq.keep s n1, HP.keep h.pa s n2 (nn 0 (by omega)), h1, h2⟩
theorem SameQ.intern (h : SameQ q x y T) (hG : GoodA x) (s : ByteArray) : SameQ (q.intern x s).2 (q.inP x s) (q.inR y s) (T + 2) :=
  ⟨h.lnk.inP hG s, h.al.intern hG q s, by have := (inP_t q x s).1; have := (inP_t q y s).2; have := (intern_t q x s).1; have := h.t; omega⟩
theorem SameQ.release (h : SameQ q x y T) (hG : GoodA x) (id : Int) : SameQ (q.release id).2 (q.reP x id) (q.reR y id) (T + 2) :=
  ⟨h.lnk.reP hG id, h.al.release hG h.lnk id, by have := (reP_t q x id).1; have := (reP_t q y id).2.1; have := (release_t q id).1; have := h.t; omega⟩
theorem SameQ.text (h : SameQ q x y T) (hG : GoodA x) (id : Int) : SameQ q (q.teP x id) y (T + 2) :=
  ⟨h.lnk.teP hG id, h.al.text hG h.lnk id, by have := (reP_t q x id).2.2; have := h.t; omega⟩
end
theorem results_tmp5 {fn : Func} {t u v x y : Tmp} (h : fn.results = #[.tmp t, .tmp u, .tmp v, .tmp x, .tmp y]) (tmps : Array Value) (P : Program) (w : World) :
    (results fn tmps).run P w = .ok (.tuple #[tmps.getD t undef, tmps.getD u undef, tmps.getD v undef, tmps.getD x undef, tmps.getD y undef]) w := by
  simp [results, h]
/-- Both pools are there. -/
def TwoQ (PA : Rep) (w : World) (gd : Nat) (A : Option Addr) (m d : Nat) (e : Ending) (W' : World) : Prop :=
  ∃ ga g gb gq col q x, e = .returned (.tuple #[.pointer (some ⟨ga, 0, none⟩), .pointer (some ⟨g, 0, none⟩), .pointer (some ⟨gb, 0, none⟩), .pointer (some ⟨gq, 0, none⟩), .bool true]) ∧ PairQ PA w gd A m d g ga gq gb col q q x x W' ∧ SameQ q x x 0
set_option maxHeartbeats 2000000 in
theorem qtwo_any {PA : Rep} (HP : ProgA PA) {w W : World} {gd m d : Nat} {A : Option Addr} {col : Col} (h : DkS w col W gd A m d) : Calls Try.prog 19 #[.pointer (some ⟨gd, 0, none⟩)] W (TwoQ PA w gd A m d) := by
  go_enter Try.func19, Try.ntmps19
  go_wp2_with fail
  refine (classes_dk h.dk).mono ?_
  rintro e W1 ⟨A1, m1, c1, L, rfl, hR, hnew, hM, hD, hg⟩
  obtain ⟨h1, s1⟩ := h.deck hD hg
  have hml := hR.len
  have hm4 := hM.n4
  have R1 : RdK0 kC col W1 A1 m1 c1 L := ⟨hR, fun _ b o sp e => h.tidy b (hnew b o sp e)⟩
  clear h hD hg hR hnew s1
  go_wp2_with fail
  refine (HP.new (k := 32) h1.tidy (by omega) R1.rd (by omega) hM.bd).mono ?_
  rintro e W2 (⟨_, ga, rfl, hd⟩ | ⟨h0, _⟩)
  rotate_left
  · exact absurd hM.ok h0
  obtain ⟨col2, p2, s2⟩ := hd
  have R2 := R1.keep s2 (rng0 (by omega))
  have D2 := h1.step s2 (fun e => by have := r32 e; omega) (rng0 (by omega))
  clear R1 h1 s2
  go_wp2_with fail
  refine (arNew (k := 64) D2.tidy (by omega) A1 m1 c1 L R2.rd (by omega) (fun x hx => by have := hM.bd x hx; simp only [I64] at this; exact ⟨this.1.1, this.1.2, this.2.1, this.2.2⟩)).mono ?_
  rintro e W3 (⟨_, gb, rfl, hd⟩ | ⟨h0, _⟩)
  rotate_left
  · exact absurd hM.ok h0
  obtain ⟨col3, p3, s3⟩ := hd
  have D3 := D2.step s3 (fun e => by have := e.1; omega) (rng0 (by omega))
  have a3 := HP.keep p2 s3 (rngs_no (by omega)) (rng0 (by omega))
  clear R2 D2 s3 p2
  go_wp2_with fail
  refine (next_dk D3.dk 8 (by omega) (by omega)).mono ?_
  rintro e W4 ⟨r, hr, rfl, h4, g4⟩
  obtain ⟨D4, s4⟩ := D3.deck h4 g4
  have a4 := HP.keep a3 s4 (fun c => no16 (by omega) (by omega)) (by omega)
  have b4 := p3.keep s4 (fun c => no16 (by omega) (by omega)) (by omega)
  obtain ⟨N, hN⟩ : ∃ N : Nat, r + 1 = N := ⟨_, rfl⟩
  have hn1 : IntKind.i64.wrap (1 + (r : Int)) = (N : Int) := by rw [IntKind.wrap_i64]; omega
  have hn2 : IntKind.i64.wrap (N : Int) = (N : Int) := by rw [IntKind.wrap_i64]; omega
  have hNb := Lib.hid (show 1 ≤ N ∧ N ≤ 8 by omega)
  clear D3 a3 p3 s4 h4 g4 hN hr
  go_wp2_with fail
  refine (pqNew (k := 16) (ga := ga) D4.tidy (by omega) (N : Int) (by have := hNb.out; simp only [I64]; omega)).mono ?_
  rintro e W5 (⟨_, g, rfl, col5, p5, s5⟩ | ⟨h0, _⟩)
  rotate_left
  · have := hNb.out; unfold newE at h0; rw [if_neg (by omega)] at h0; cases h0
  have D5 := D4.step s5 (fun e => by have := r16 e; omega) (rng0 (by omega))
  have a5 := HP.keep a4 s5 (rngs_no (by omega)) (rng0 (by omega))
  have b5 := b4.keep s5 (rngs_no (by omega)) (rng0 (by omega))
  clear D4 a4 b4 s5
  go_wp2_with fail
  refine (rqNew (k := 48) (ga := gb) D5.tidy (by omega) (N : Int) (by have := hNb.out; simp only [I64]; omega)).mono ?_
  rintro e W6 (⟨_, gq, rfl, col6, q6, s6⟩ | ⟨h0, _⟩)
  rotate_left
  · have := hNb.out; unfold newE at h0; rw [if_neg (by omega)] at h0; cases h0
  have D6 := D5.step s6 (fun e => by have := e.1; omega) (rng0 (by omega))
  have HQ := Lib.hid (show PairQ PA w gd A m d g ga gq gb col6 _ _ _ _ W6 from ⟨D6, p5.keep s6 (rngs_no (by omega)), HP.keep a5 s6 (rngs_no (by omega)) (rng0 (by omega)), q6, b5.keep s6 (rngs_no (by omega)) (rng0 (by omega))⟩)
  clear D5 a5 b5 s6 D6 p5 q6
  go_wp2
  (try simp only [Exit.inBlock, Exit.then])
  refine bodyPost_ret (results_tmp5 rfl _ _ _) rfl ?_
  exact ⟨ga, g, gb, gq, col6, _, _, rfl, HQ.out, ⟨Lnk.new _ _, Alike.refl _, Nat.zero_le _, Nat.zero_le _, Nat.zero_le _⟩⟩
end Go.Proofs.Ytenchaifnfgijaa
