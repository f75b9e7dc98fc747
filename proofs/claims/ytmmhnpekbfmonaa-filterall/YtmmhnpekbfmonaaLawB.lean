/- FilterAll. -/
import Derived.Test.YtmmhnpekbfmonaaLawG
import Derived.Test.YtmmhnpekbfmonaaFilB
namespace Go.Proofs.Ytmmhnpekbfmonaa
open Go.RowKit

/-- A prefix in a block of one's own. -/
def PX (W : World) (N : Nat) (a l : Int) : Prop := W.cell? ⟨N, 0, none⟩ = some (.int .u32 a) ∧ W.cell? ⟨N, 1, none⟩ = some (.int .i64 l) ∧ (∀ o, W.frozen? ⟨N, o, none⟩ = false) ∧ N < W.heap.size
theorem PX.new (W : World) (a l : Int) : PX (W.alloc (objX a l)) W.heap.size a l := by
  refine ⟨?_, ?_, fun o => ?_, ?_⟩ <;> simp [go_sem]
theorem PX.later {W W' : World} {N : Nat} {a l : Int} (h : PX W N a l) (hb : Below W.heap.size W W') : PX W' N a l :=
  ⟨cell_later hb h.1, cell_later hb h.2.1, fun o => (hb.frozen (p := ⟨N, o, none⟩) h.2.2.2).trans (h.2.2.1 o), Nat.lt_of_lt_of_le h.2.2.2 hb.size⟩
theorem PX.set {W : World} {N : Nat} {a l : Int} (h : PX W N a l) (a' : Int) : PX (W.setCell ⟨N, 0, none⟩ (.int .u32 a')) N a' l := by
  obtain ⟨h0, h1, h2, h3⟩ := h
  exact ⟨by simp [go_sem, h0], by simp [go_sem, h1], fun o => by simp [go_sem, h2], by simpa using h3⟩
set_option maxRecDepth 100000 in
set_option maxHeartbeats 2000000 in
theorem law_all (C : FilC) (b : Bool) (x : Nat) (l : Int) (t : Nat) (w : World) (hx : x < 4294967296) (ht : t < 65536) :
    Calls Try.prog 5 #[.bool b, .int .u32 (x : Int), .int .i64 l, .int .u16 (t : Int)] w fun e w' => e = .returned (.bool true) ∧ Below w.heap.size w w' := by
  have HC : Hid FilC := C
  clear C
  by_cases hl : 0 ≤ l ∧ l ≤ 32
  case neg =>
    by_cases k1 : l < 0
    all_goals by_cases k2 : l > 32
    all_goals try (exfalso; omega)
    all_goals
      go_enter Try.func5, Try.ntmps5
      go_wp2_with (go_at_call 8; refine (awake_any HC.out _).mono ?_; rintro e W1 ⟨rfl, hb1⟩)
      go_ret
      exact ⟨rfl, hb1⟩
  obtain ⟨n, rfl⟩ := Int.eq_ofNat_of_zero_le hl.1
  have hn : n ≤ 32 := by omega
  have k1 : ¬ (n : Int) < 0 := by omega
  have k2 : ¬ (n : Int) > 32 := by omega
  obtain ⟨p, hp⟩ : ∃ p, cutN x n = p := ⟨_, rfl⟩
  have HP : Hid (cutN x n = p) := hp
  have HF := one_fit (all_fit (t := t) hx hn b)
  rw [hp] at HF
  have H1 : Hid (perB (p : Int) (n : Int) t [⟨b, 0, 0, 0, 32, 0, 0⟩] = b) := by unfold Hid; rw [HF.1]; simp
  have H2 : Hid (perI (p : Int) (n : Int) t [⟨b, 0, 0, 0, 32, 0, 0⟩] = 0) := HF.2
  have H3 : Hid (perB (p : Int) (n : Int) t [] = false ∧ perI (p : Int) (n : Int) t [] = -1) := ⟨rfl, rfl⟩
  have H4 : Hid (mayL [⟨b, 0, 0, 0, 32, 0, 0⟩] = true) := by unfold Hid mayL mayU; simp; decide
  have HO : Hid (Ru.Ok ⟨b, 0, 0, 0, 32, 0, 0⟩) := by constructor <;> (simp only; omega)
  have HQ : Hid (U32 (p : Int) ∧ I64 (n : Int)) := by
    have := cut_lt hx n
    exact ⟨⟨by omega, by omega⟩, ⟨by omega, by omega⟩⟩
  clear hl hp HF
  go_enter Try.func5, Try.ntmps5
  go_wp2_with (go_at_call 8; refine (awake_any HC.out _).mono ?_; rintro e W1 ⟨rfl, hb1⟩)
  have h0 : PX (W1.alloc (objX 0 (n : Int))) W1.heap.size 0 (n : Int) := PX.new _ _ _
  obtain ⟨N, hN⟩ : ∃ N, W1.heap.size = N := ⟨_, rfl⟩
  have HB1 : Hid (Below w.heap.size w W1 ∧ W1.heap.size = N ∧ w.heap.size ≤ N) := ⟨hb1, hN, hN ▸ hb1.size⟩
  rw [hN] at h0 ⊢
  clear hN hb1
  go_loopw [11, 12] (fun i_ _ W => ∃ (k : Nat), k ≤ n ∧ i_ = .int .i64 k ∧ Hid (PX W N ((cutN x k : Nat) : Int) (n : Int)) ∧ Hid (Below w.heap.size w W)) (fun i_ _ _ => n - (intOf i_).toNat)
  case atStart => exact ⟨0, Nat.zero_le _, rfl, by rw [cut_zero hx]; exact h0, stp HB1.out.1 (below1 _ _)⟩
  case round =>
    obtain ⟨k, hk, rfl, HX, HB⟩ := hrel
    obtain ⟨x0, x1, fz, hlt0⟩ := HX.out
    by_cases hlt : k < n
    · have hlt' : (k : Int) < (n : Int) := by omega
      cases hb : x.testBit (31 - k)
      · have e1 : bits .and .u32 (x : Int) ((2 : Int) ^ (31 - k) % 4294967296) = 0 := by rw [and_shl hx (by omega), hb]; rfl
        have HX' : Hid (PX wr N ((cutN x (k + 1) : Nat) : Int) (n : Int)) := by unfold Hid; rw [← cut_no (by omega) hb]; exact HX.out
        go_wp2
        go_roundw
        case rel => exact ⟨k + 1, by omega, by go_num, HX', HB⟩
        case measure => simp [intOf]; omega
      · obtain ⟨q, hq⟩ : ∃ q, 2 ^ (31 - k) = q := ⟨_, rfl⟩
        have hq0 : 0 < q := by rw [← hq]; exact Nat.two_pow_pos _
        have e1 : bits .and .u32 (x : Int) ((2 : Int) ^ (31 - k) % 4294967296) = (q : Int) := by rw [and_shl hx (by omega), hb, ← hq]; rfl
        have e2 : bits .or .u32 ((cutN x k : Nat) : Int) ((2 : Int) ^ (31 - k) % 4294967296) = ((cutN x (k + 1) : Nat) : Int) := or_shl hx (by omega) hb
        have e3 : ((q : Int) != 0) = true := by rw [bne_iff_ne]; omega
        clear hq hb
        go_wp2
        go_roundw
        case rel => exact ⟨k + 1, by omega, by go_num, HX.out.set _, HB.out.setCell (p := ⟨N, 0, none⟩) HB1.out.2.2 _⟩
        case measure => simp [intOf]; omega
    · have hlt' : ¬ (k : Int) < (n : Int) := by omega
      obtain rfl : k = n := by omega
      rw [HP.out] at x0
      have hr : RowU (wr.alloc (objU b 0 0 0 32 0 0)) (some ⟨wr.heap.size, 0, none⟩) 1 [⟨b, 0, 0, 0, 32, 0, 0⟩] := rowU_one (U7.new wr b 0 0 0 32 0 0) rfl HO.out
      have HMk : Hid True := trivial
      have x0' := cell_later (below1 wr (objU b 0 0 0 32 0 0)) x0
      have x1' := cell_later (below1 wr (objU b 0 0 0 32 0 0)) x1
      go_wp2_with (first
        | (go_at_call 9; have HMk' := HMk; clear HMk HMk'; refine (HC.out.permits _ _ _ [⟨b, 0, 0, 0, 32, 0, 0⟩] (p : Int) (k : Int) t _ hr (by decide) HQ.out.1 HQ.out.2 ht).mono ?_; rw [H1.out, H2.out]; rintro e W2 ⟨rfl, hb2⟩; have x0' := cell_later hb2 x0'; have x1' := cell_later hb2 x1'; have hr := hr.later hb2)
        | (go_at_call 9; refine (HC.out.permits none 0 0 [] (p : Int) (k : Int) t _ (rowU_none _) (by decide) HQ.out.1 HQ.out.2 ht).mono ?_; rw [H3.out.1, H3.out.2]; rintro e W3 ⟨rfl, hb3⟩; have hr := hr.later hb3)
        | (go_at_call 11; refine (HC.out.may _ _ _ [⟨b, 0, 0, 0, 32, 0, 0⟩] _ hr).mono ?_; rw [H4.out]; rintro e W4 ⟨rfl, hb4⟩))
      go_ret
      exact ⟨rfl, stp (stp (stp1 HB.out hb2) hb3) hb4⟩
end Go.Proofs.Ytmmhnpekbfmonaa
