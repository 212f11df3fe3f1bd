/- heavykeyslaw05.FrameBody returns true, whatever the input. Conditions: none beyond those typed. -/
import Derived.Test.YtoaijnpkenflbaaGlawl
import Derived.Test.YtoaijnpkenflbaaEconv
namespace Go.Proofs.Ytoaijnpkenflbaa
open Go.ChangeShapes Go.WideShapes Go.ChangeAt Go.RowKit
set_option linter.unusedVariables false
set_option linter.unusedSimpArgs false
set_option maxRecDepth 100000

/-- Block g holds N slices of events. -/
def Evl (W : World) (g N : Nat) : Prop := ∀ k, k < N → ∃ A n c L, W.cell? ⟨g, k, none⟩ = some (.slice A n c) ∧ RdE W A n c L ∧ Wts L
theorem Evl.below {W W' : World} {g N : Nat} (h : Evl W g N) (hb : Below W.heap.size W W') : Evl W' g N := by
  intro k hk
  obtain ⟨A, n, c, l, h0, h1, h2⟩ := h k hk
  exact ⟨A, n, c, l, (hb.cell (World.block_lt_of_cell? _ _ h0)).trans h0, h1.below hb, h2⟩
theorem Evl.two {W : World} {A0 A1 : Option Addr} {n0 n1 c0 c1 : Nat} {l0 l1 : List Ev} {t : TypeId} (h0 : RdE W A0 n0 c0 l0) (h1 : RdE W A1 n1 c1 l1) (w0 : Wts l0) (w1 : Wts l1) :
    Evl (W.alloc (.cells #[.slice A0 n0 c0, .slice A1 n1 c1] t)) W.heap.size 2 := by
  intro k hk
  match k, hk with
  | 0, _ => exact ⟨A0, n0, c0, l0, by rw [World.cell?_alloc_at _ _ _ _ rfl]; rfl, h0.below ((Below.refl _ _).alloc (Nat.le_refl _) _), w0⟩
  | 1, _ => exact ⟨A1, n1, c1, l1, by rw [World.cell?_alloc_at _ _ _ _ rfl]; rfl, h1.below ((Below.refl _ _).alloc (Nat.le_refl _) _), w1⟩
/-- The rest of FrameBody: a row of events of the call's own. -/
def ManyE (W2 W : World) (v : Value) (k : Nat) : Prop := ∃ (R : List RawE) (M : List Ev), OwnE W W2.heap.size v R ∧ Tells W2 R M ∧ M.length = k ∧ Wts M ∧ Below W2.heap.size W2 W

theorem many_lit {w2 wr w5 : World} {v : Value} {R : List RawE} (hO : OwnE wr w2.heap.size v R) (hb : Below w2.heap.size w2 wr) (hb5 : Below wr.heap.size wr w5) (s : ByteArray) :
    OwnE ((w5.alloc (.cells #[.string s, .string ⟨#[]⟩] 33)).alloc (.cells #[.slice (some ⟨w5.heap.size, 0, none⟩) 1 1, .int .i64 0, .int .u64 0] 30)) w2.heap.size v R ∧
    w2.heap.size ≤ ((w5.alloc (.cells #[.string s, .string ⟨#[]⟩] 33)).alloc (.cells #[.slice (some ⟨w5.heap.size, 0, none⟩) 1 1, .int .i64 0, .int .u64 0] 30)).heap.size ∧
    Below w2.heap.size w2 ((w5.alloc (.cells #[.string s, .string ⟨#[]⟩] 33)).alloc (.cells #[.slice (some ⟨w5.heap.size, 0, none⟩) 1 1, .int .i64 0, .int .u64 0] 30)) ∧
    RawAt ((w5.alloc (.cells #[.string s, .string ⟨#[]⟩] 33)).alloc (.cells #[.slice (some ⟨w5.heap.size, 0, none⟩) 1 1, .int .i64 0, .int .u64 0] 30)) (some ⟨w5.heap.size + 1, 0, none⟩) 1 1 [(some ⟨w5.heap.size, 0, none⟩, 1, 1, 0, 0)] := by
  have h5 := below_then hb hb5
  have h6 := h5.alloc h5.size (.cells #[.string s, .string ⟨#[]⟩] 33)
  have h7 := h6.alloc h6.size (.cells #[.slice (some ⟨w5.heap.size, 0, none⟩) 1 1, .int .i64 0, .int .u64 0] 30)
  exact ⟨((hO.kept hb5).alloc _).alloc _, h7.size, h7, RawAt.one' (r := (some ⟨w5.heap.size, 0, none⟩, 1, 1, 0, 0)) (by simp)⟩
theorem many_done {w2 wr w5 W8 : World} {v v8 : Value} {R : List RawE} {M : List Ev} {s : ByteArray} {k : Nat} (hO : OwnE wr w2.heap.size v R) (hO8 : OwnE W8 w2.heap.size v8 (R ++ [(some ⟨w5.heap.size, 0, none⟩, 1, 1, 0, 0)])) (hb : Below w2.heap.size w2 wr) (hb5 : Below wr.heap.size wr w5)
    (hb7 : Below w2.heap.size w2 ((w5.alloc (.cells #[.string s, .string ⟨#[]⟩] 33)).alloc (.cells #[.slice (some ⟨w5.heap.size, 0, none⟩) 1 1, .int .i64 0, .int .u64 0] 30)))
    (hg8 : ((w5.alloc (.cells #[.string s, .string ⟨#[]⟩] 33)).alloc (.cells #[.slice (some ⟨w5.heap.size, 0, none⟩) 1 1, .int .i64 0, .int .u64 0] 30)).grownBy W8 v.ownBlock)
    (hT : Tells w2 R M) (hWM : Wts M) (hs : s.size ≤ 140737488355328) (hRk : R.length = k)
    (hO7 : OwnE ((w5.alloc (.cells #[.string s, .string ⟨#[]⟩] 33)).alloc (.cells #[.slice (some ⟨w5.heap.size, 0, none⟩) 1 1, .int .i64 0, .int .u64 0] 30)) w2.heap.size v R) :
    ∃ A8 c8, v8 = .slice A8 (k + 1) c8 ∧ RdE W8 A8 (k + 1) c8 (M ++ [([(s, ⟨#[]⟩)], 0, 0)]) ∧ Below w2.heap.size w2 W8 ∧ Wts (M ++ [([(s, ⟨#[]⟩)], 0, 0)]) := by
  have hb8 : Below w2.heap.size w2 W8 := hb7.grown hg8 hb7.size (fun k hk => (hO7.lt k hk).1)
  obtain ⟨A8, c8, rfl, hr8⟩ := hO8.form (n := k + 1) (by rw [List.length_append, hRk]; rfl)
  have hr := (RdT.one' (w := w5) (h := w5.heap.size) rfl (p := s) (q := ⟨#[]⟩) ⟨hs, by decide⟩).alloc (.cells #[.slice (some ⟨w5.heap.size, 0, none⟩) 1 1, .int .i64 0, .int .u64 0] 30)
  have hr' := hr.grown hg8 (fun b o e e' => by
    injection e with e; injection e with e1 _; subst e1
    have := (hO.lt _ e'.symm).2
    have := hb5.size
    omega)
  refine ⟨A8, c8, rfl, ⟨_, hr8, (hT.below hb8).snoc hr' (show 1 ≤ 1000 by decide) rfl rfl⟩, hb8, fun e he => ?_⟩
  rcases List.mem_append.1 he with h | h
  · exact hWM e h
  · simp at h; subst h; exact ⟨Int.le_refl 0, show (0 : Int) ≤ 18446744073709551615 by omega⟩

set_option maxHeartbeats 1000000 in
theorem frameBody_walk (B : Option Addr) (m d : Nat) (u : Int) (long : Bool) (w : World) (hB : RdI w B m d) (h1 : 0 ≤ u) (h2 : u ≤ 255) :
    Calls Try.prog 3 #[.slice B m d, .int .u8 u, .bool long] w (Yes w) := by
  obtain ⟨u', rfl⟩ := Int.eq_ofNat_of_zero_le h1
  obtain ⟨v, hv⟩ : ∃ v, v = u' % 70 := ⟨_, rfl⟩
  have hv70 : v < 70 := by omega
  have hT1 : (u' : Int).tmod 70 = (v : Int) := by rw [hv]; rfl
  have hT2 : (u' : Int) % 70 = (v : Int) := by rw [hv]; rfl
  clear hv
  go_enter Try.func3, Try.ntmps3
  go_wp2_with fail
  refine (new_any _ _ _ _).mono ?_
  rintro e w1 ⟨rfl, rfl⟩
  go_wp2_with fail
  refine (events_any 50 10 (Dk.new hB) (by omega) (by omega)).mono ?_
  rintro e w2 ⟨A2, n2, c2, L, rfl, hE2, hn1, hn2, hF, hD2, -⟩
  have hB2 := hD2.low
  have hLl := hE2.len
  have hW := Lib.hid (fit_wts hF)
  have hmx2 := hE2.max
  have hcp2 := hE2.cap
  clear hD2 hF
  go_wp2
  go_loopw [8, 9] (fun v' i W => ∃ k : Nat, k ≤ v ∧ ManyE w2 W v' k ∧ i = .int .i64 k) (fun _ i _ => v - (intOf i).toNat)
  case atStart => exact ⟨0, by omega, ⟨[], [], OwnE.nil _ _, Tells.nil _, rfl, fun e he => by simp at he, Below.refl _ _⟩, rfl⟩
  case round =>
    obtain ⟨k, hk, ⟨R, M, hO, hT, hM, hWM, hb⟩, rfl⟩ := hrel
    have hRM := hT.1
    by_cases hlt : k < v
    · obtain ⟨y, hyy⟩ : ∃ y, y = k % n2 := ⟨_, rfl⟩
      have hyl : y < n2 := hyy ▸ Nat.mod_lt _ (by omega)
      have hT3 : (k : Int).tmod (n2 : Int) = (y : Int) := by rw [hyy]; rfl
      have hT4 : (k : Int) % (n2 : Int) = (y : Int) := by rw [hyy]; rfl
      have hz1 : ¬ (n2 : Int) = 0 := by omega
      have hz2 : ((n2 : Int) == 0) = false := beq_false_of_ne hz1
      have hz3 : ¬ n2 = 0 := by omega
      obtain ⟨b, o, A5, n5, c5, l, t, x, rfl, hg, hbl, y0', y1', y2', hRT, hn5⟩ := hE2.at_ hyl
      have hkc := fun (a : Addr) (v : Value) (hc : w2.cell? a = some v) => (hb.cell (World.block_lt_of_cell? _ a hc)).trans hc
      have y0 := hkc _ _ y0'
      have y1 := hkc _ _ y1'
      have y2 := hkc _ _ y2'
      have hblr := World.block_lt_of_cell? _ _ y0
      have hx : 0 ≤ x ∧ x ≤ 18446744073709551615 := hW.out _ (List.mem_of_getElem? hg)
      have hT5 := hT.snoc (r := (A5, n5, c5, t, x)) (e := (l, t, x)) hRT hn5 rfl rfl
      have hO5 := hO.alloc (.cells #[.slice A5 n5 c5, .int .i64 t, .int .u64 x] 30)
      have hb5 := hb.alloc hb.size (.cells #[.slice A5 n5 c5, .int .i64 t, .int .u64 x] 30)
      have hz5 := hb5.size
      have hN5 := RawAt.one' (w := wr) (r := (A5, n5, c5, t, x)) rfl
      have hlen5 : R.length + 1 ≤ 1000000 := by omega
      have hWM' : Wts (M ++ [(l, t, x)]) := fun e he => by
        rcases List.mem_append.1 he with h | h
        · exact hWM e h
        · simp at h; subst h; exact hx
      have hM' : (M ++ [(l, t, x)]).length = k + 1 := by rw [List.length_append, hM]; rfl
      clear hyy hkc y0' y1' y2' hRT hO hT hb hg
      go_wp2_with (at_builtin; refine wpList_appE rfl (.tmp 30) (.tmp 38) rfl w2.heap.size _ R rfl _ 1 1 [(A5, n5, c5, t, x)] rfl hO5 hN5 hlen5 hz5 ?_; intro v6 W6 hO6 hg6 hv6; have hb6 : Below w2.heap.size w2 W6 := hb5.grown hg6 hz5 (fun k hk => (hO5.lt k hk).1))
      clear hO5 hN5 hb5 hg6 hv6
      go_roundw
      case rel => exact ⟨k + 1, by omega, ⟨_, _, hO6, hT5, hM', hWM', hb6⟩, by go_num⟩
      case measure => (simp [intOf] <;> omega)
    · obtain ⟨A3, c3, rfl, hr3⟩ := hO.form (n := k) (by rw [hRM, hM])
      have hTw := hT.below hb
      have hRE : RdE wr A3 k c3 M := ⟨R, hr3, hTw⟩
      have hB3 := below_then hB2 hb
      have hE3 := hE2.below hb
      cases long
      · have hV := Evl.two (t := 23) hE3 hRE hW.out hWM
        have hBW := hB3.alloc hB3.size (.cells #[.slice A2 n2 c2, .slice A3 k c3] 23)
        clear hE3 hRE hWM hB3 hTw hr3 hO hT hE2 hB2 hRM hb
        go_wp2
        generalize hG : wr.heap.size = G at *
        generalize wr.alloc (.cells #[.slice A2 n2 c2, .slice A3 k c3] 23) = W0 at *
        clear hG
        go_loopw [53] (fun i W => ∃ j : Nat, j ≤ 2 ∧ Below W0.heap.size W0 W ∧ i = .int .i64 j) (fun i _ => 2 - (intOf i).toNat)
        case atStart => exact ⟨0, by omega, Below.refl _ _, rfl⟩
        case round =>
          obtain ⟨j, hj, hb, rfl⟩ := hrel
          by_cases hlt : j < 2
          · obtain ⟨Aj, nj, cj, Lj, a0, hRj, hWj⟩ := (hV.below hb) j hlt
            have hbG := World.block_lt_of_cell? _ _ a0
            have HWj := Lib.hid hWj
            clear hWj
            go_wp2_with fail
            refine (body_any _ _ _ Lj _ hRj HWj.out).mono ?_
            rintro e w6 ⟨A6, n6, c6, rfl, hr6, hb6⟩
            have hb7 := below_then hb hb6
            have hR6 := hRj.below hb6
            clear a0 hRj hb6
            go_wp2_with fail
            refine (rbody_any _ _ _ Lj _ hR6 HWj.out).mono ?_
            rintro e w7 ⟨A7, n7, c7, rfl, hr7, hb8⟩
            obtain rfl : n6 = n7 := hr6.len.symm.trans hr7.len
            have hb9 := below_then hb7 hb8
            have hR7 := hR6.below hb8
            have hr6' := hr6.below hb8
            clear hR6 hb7 hb8 hr6
            go_wp2_with fail
            refine (frame_any _ _ _ Lj _ hR7 HWj.out).mono ?_
            rintro e w8 ⟨A8, n8, c8, rfl, hr8, hb10⟩
            have hb11 := below_then hb9 hb10
            have hR8 := hR7.below hb10
            have hr68 := hr6'.below hb10
            have hr78 := hr7.below hb10
            clear hR7 hb9 hb10 hr6' hr7
            go_wp2_with fail
            refine (rframe_any _ _ _ Lj _ hR8 HWj.out).mono ?_
            rintro e w9 ⟨A9, n9, c9, rfl, hr9, hb12⟩
            obtain rfl : n8 = n9 := hr8.len.symm.trans hr9.len
            have hb13 := below_then hb11 hb12
            have hr69 := hr68.below hb12
            have hr79 := hr78.below hb12
            have hr89 := hr8.below hb12
            clear hR8 hb11 hb12 hr68 hr78 hr8
            generalize bdE Lj = ze at *
            generalize bdO Lj = lo at *
            generalize frO Lj = lf at *
            have hnn : (ze != ze) = false := by simp
            go_wp2_with (first | (go_at_call 14; refine (same_yes _ _ _ _ _ _ _ hr69 hr79).mono ?_; rintro e w10 ⟨rfl, j1, rfl⟩; have hb14 := below_drewN hb13 j1; clear hr69 hr79) | (go_at_call 14; refine (same_yes _ _ _ _ _ _ _ (hr89.drewN j1) (hr9.drewN j1)).mono ?_; rintro e w11 ⟨rfl, j2, rfl⟩; have hb15 := below_drewN hb14 j2))
            go_roundw
            case rel => exact ⟨j + 1, by omega, below_drewN hb13 _, by go_num⟩
            case measure => (simp [intOf] <;> omega)
          · go_wp2_with fail
            refine (awake_any _).mono ?_
            rintro e w6 ⟨rfl, hb6⟩
            have hb7 := below_then (below_then hBW hb) hb6
            go_wp2
            go_ret
            exact ⟨rfl, hb7⟩
      · obtain ⟨i0, hi0, hz0, hz1, hz2⟩ := info_parts info_u8
        obtain ⟨N, hN⟩ : ∃ N : Nat, N = 4080 := ⟨_, rfl⟩
        have hby : i0.bytes * N ≤ 281474976710656 := by rw [hz2]; omega
        have HZ2 := Lib.hid hz2
        have hmx : N ≤ maxLen := by simp only [maxLen]; omega
        have hL : (4080 : Int) = (N : Int) := by omega
        have HR := Lib.hid (show R.length + 1 ≤ 1000000 by omega)
        have hRk : R.length = k := by rw [hRM, hM]
        have hNb : N ≤ 140737488355328 := by omega
        clear hz2 hN
        go_wp2_with (first | (at_make; refine wpList_make_full _ rfl _ _ 31 rfl wr.heap.size 5 i0 (.int .u8 0) 1 Try.underlying31 hi0 hz0 hz1 _ _ _ _ N rfl rfl hL hL hby hmx (Nat.le_refl _) ?_; intro w5 hown hgrow; rw [Nat.mul_one] at hown; have hZ := Rd.zeros hown hmx; have hC := conv_bS hZ; have hsz := bS_size (List.replicate N 0); rw [List.length_replicate] at hsz; have hb5 : Below wr.heap.size wr w5 := (Below.refl _ _).grown hgrow (Nat.le_refl _) (fun k hk => by cases hk); clear hi0 hz0 hz1 hby HZ2 hown hgrow hZ; generalize bS (List.replicate N 0) = s at *; obtain ⟨hO7, hz7, hb7, hN7⟩ := many_lit hO hb hb5 s) | (at_builtin; refine wpList_appE rfl (.tmp 41) (.tmp 47) rfl w2.heap.size _ R rfl _ 1 1 _ rfl hO7 hN7 HR.out hz7 ?_; intro v8 W8 hO8 hg8 hv8; obtain ⟨A8, c8, rfl, hE8, hb8, hW8⟩ := many_done hO hO8 hb hb5 hb7 hg8 hT hWM (hsz ▸ hNb) hRk hO7))
        have hB8 := below_then hB2 hb8
        have hE38 := hE2.below hb8
        have hV := Evl.two (t := 23) hE38 hE8 hW.out hW8
        have hBW := hB8.alloc hB8.size (.cells #[.slice A2 n2 c2, .slice A8 (k + 1) c8] 23)
        clear hE3 hRE hWM hB3 hTw hr3 hO hT hE2 hB2 hRM hb hO7 hz7 hb7 hN7 hO8 hg8 hv8 hE8 hb8 hW8 hB8 hE38 hC hsz hb5
        generalize hG : W8.heap.size = G at *
        generalize W8.alloc (.cells #[.slice A2 n2 c2, .slice A8 (k + 1) c8] 23) = W0 at *
        clear hG
        go_loopw [53] (fun i W => ∃ j : Nat, j ≤ 2 ∧ Below W0.heap.size W0 W ∧ i = .int .i64 j) (fun i _ => 2 - (intOf i).toNat)
        case atStart => exact ⟨0, by omega, Below.refl _ _, rfl⟩
        case round =>
          obtain ⟨j, hj, hb, rfl⟩ := hrel
          by_cases hlt : j < 2
          · obtain ⟨Aj, nj, cj, Lj, a0, hRj, hWj⟩ := (hV.below hb) j hlt
            have hbG := World.block_lt_of_cell? _ _ a0
            have HWj := Lib.hid hWj
            clear hWj
            go_wp2_with fail
            refine (body_any _ _ _ Lj _ hRj HWj.out).mono ?_
            rintro e w6 ⟨A6, n6, c6, rfl, hr6, hb6⟩
            have hb7 := below_then hb hb6
            have hR6 := hRj.below hb6
            clear a0 hRj hb6
            go_wp2_with fail
            refine (rbody_any _ _ _ Lj _ hR6 HWj.out).mono ?_
            rintro e w7 ⟨A7, n7, c7, rfl, hr7, hb8⟩
            obtain rfl : n6 = n7 := hr6.len.symm.trans hr7.len
            have hb9 := below_then hb7 hb8
            have hR7 := hR6.below hb8
            have hr6' := hr6.below hb8
            clear hR6 hb7 hb8 hr6
            go_wp2_with fail
            refine (frame_any _ _ _ Lj _ hR7 HWj.out).mono ?_
            rintro e w8 ⟨A8, n8, c8, rfl, hr8, hb10⟩
            have hb11 := below_then hb9 hb10
            have hR8 := hR7.below hb10
            have hr68 := hr6'.below hb10
            have hr78 := hr7.below hb10
            clear hR7 hb9 hb10 hr6' hr7
            go_wp2_with fail
            refine (rframe_any _ _ _ Lj _ hR8 HWj.out).mono ?_
            rintro e w9 ⟨A9, n9, c9, rfl, hr9, hb12⟩
            obtain rfl : n8 = n9 := hr8.len.symm.trans hr9.len
            have hb13 := below_then hb11 hb12
            have hr69 := hr68.below hb12
            have hr79 := hr78.below hb12
            have hr89 := hr8.below hb12
            clear hR8 hb11 hb12 hr68 hr78 hr8
            generalize bdE Lj = ze at *
            generalize bdO Lj = lo at *
            generalize frO Lj = lf at *
            have hnn : (ze != ze) = false := by simp
            go_wp2_with (first | (go_at_call 14; refine (same_yes _ _ _ _ _ _ _ hr69 hr79).mono ?_; rintro e w10 ⟨rfl, j1, rfl⟩; have hb14 := below_drewN hb13 j1; clear hr69 hr79) | (go_at_call 14; refine (same_yes _ _ _ _ _ _ _ (hr89.drewN j1) (hr9.drewN j1)).mono ?_; rintro e w11 ⟨rfl, j2, rfl⟩; have hb15 := below_drewN hb14 j2))
            go_roundw
            case rel => exact ⟨j + 1, by omega, below_drewN hb13 _, by go_num⟩
            case measure => (simp [intOf] <;> omega)
          · go_wp2_with fail
            refine (awake_any _).mono ?_
            rintro e w6 ⟨rfl, hb6⟩
            have hb7 := below_then (below_then hBW hb) hb6
            go_wp2
            go_ret
            exact ⟨rfl, hb7⟩
end Go.Proofs.Ytoaijnpkenflbaa
