/- Layer 5: a meter beside other things; its answers from all that was ever taken. -/
import Derived.Test.YtabocojmobbpaaaShareR
import Derived.Test.YtabocojmobbpaaaTickW
import Derived.Test.YtabocojmobbpaaaLis
namespace Go.Proofs.Ytabocojmobbpaaa
open Go.RowKit
set_option linter.unusedVariables false
set_option maxRecDepth 100000
/-- What was taken in window K. -/
def sw (K : Int) : List (Int × Int) → Int
  | [] => 0
  | p :: ws => (if p.1 = K then p.2 else 0) + sw K ws
theorem sw_app (K : Int) (ws : List (Int × Int)) (p : Int × Int) : sw K (ws ++ [p]) = sw K ws + (if p.1 = K then p.2 else 0) := by
  induction ws with
  | nil => simp [sw]
  | cons q ws ih => simp only [List.cons_append, sw, ih]; omega
theorem sw_pos {ws : List (Int × Int)} (h : ∀ p ∈ ws, 0 ≤ p.2) (K : Int) : 0 ≤ sw K ws := by
  induction ws with
  | nil => simp [sw]
  | cons q ws ih =>
    have := ih fun p hp => h p (by simp [hp])
    have := h q (by simp)
    unfold sw; split <;> omega
theorem sw_take_le {ws : List (Int × Int)} (h : ∀ p ∈ ws, 0 ≤ p.2) (K : Int) (i : Nat) : sw K (ws.take i) ≤ sw K ws := by
  induction ws generalizing i with
  | nil => simp
  | cons q ws ih =>
    cases i with
    | zero => have := sw_pos h K; simpa [sw] using this
    | succ i =>
      have := ih (fun p hp => h p (by simp [hp])) i
      simp only [List.take_succ_cons, sw]; omega
theorem sw_zero {ws : List (Int × Int)} {W K : Int} (h : ∀ p ∈ ws, p.1 ≤ W) (hK : W < K) : sw K ws = 0 := by
  induction ws with
  | nil => rfl
  | cons q ws ih =>
    have := ih fun p hp => h p (by simp [hp])
    have := h q (by simp)
    unfold sw; rw [if_neg (by omega)]; omega
/-- What holds between two calls: each window's takes are within the budget; no window is later than the time's. -/
structure XOK (B P ph N : Int) (ws : List (Int × Int)) : Prop where
  share : 1 ≤ B ∧ B ≤ P ∧ P ≤ 1099511627776
  n : 0 ≤ ph ∧ ph ≤ N ∧ N < 4611686018427387904
  win : ∀ p ∈ ws, 0 ≤ p.1 ∧ p.1 ≤ (N - ph) / P ∧ 0 ≤ p.2
  most : ∀ K, sw K ws ≤ B
/-- What is left, if it is told. -/
def LeftR (B P ph N : Int) (ws : List (Int × Int)) (now v f N' : Int) : Prop :=
  (¬ now < 4611686018427387904 ∧ v = 0 ∧ f = 2 ∧ N' = N) ∨ (now < 4611686018427387904 ∧ now < N ∧ v = 0 ∧ f = 1 ∧ N' = N) ∨ (now < 4611686018427387904 ∧ N ≤ now ∧ v = B - sw ((now - ph) / P) ws ∧ f = 0 ∧ N' = now)
theorem leftR_ex (B P ph N : Int) (ws : List (Int × Int)) (now : Int) : ∃ v f N', LeftR B P ph N ws now v f N' := by
  by_cases h1 : now < 4611686018427387904
  · by_cases h2 : now < N
    · exact ⟨_, _, _, Or.inr (Or.inl ⟨h1, h2, rfl, rfl, rfl⟩)⟩
    · exact ⟨_, _, _, Or.inr (Or.inr ⟨h1, by omega, rfl, rfl, rfl⟩)⟩
  · exact ⟨_, _, _, Or.inl ⟨h1, rfl, rfl, rfl⟩⟩
theorem LeftR.xok {B P ph N now v f N' : Int} {ws : List (Int × Int)} (hR : LeftR B P ph N ws now v f N') (h : XOK B P ph N ws) : XOK B P ph N' ws := by
  rcases hR with ⟨_, _, _, rfl⟩ | ⟨_, _, _, _, rfl⟩ | ⟨h1, h2, _, _, rfl⟩
  · exact h
  · exact h
  · refine ⟨h.share, ⟨h.n.1, by have := h.n; omega, h1⟩, fun p hp => ?_, h.most⟩
    obtain ⟨a, b, c⟩ := h.win p hp
    have : (N - ph) / P ≤ (N' - ph) / P := Int.ediv_le_ediv (by have := h.share; omega) (by omega)
    exact ⟨a, by omega, c⟩
theorem XOK.put {B P ph N n : Int} {ws : List (Int × Int)} (h : XOK B P ph N ws) (h0 : 0 ≤ n) (h1 : n ≤ B - sw ((N - ph) / P) ws) : XOK B P ph N (ws ++ [((N - ph) / P, n)]) := by
  refine ⟨h.share, h.n, fun p hp => ?_, fun K => ?_⟩
  · rcases List.mem_append.1 hp with hp | hp
    · exact h.win p hp
    · simp at hp; subst hp
      exact ⟨Int.ediv_nonneg (by have := h.n; omega) (by have := h.share; omega), Int.le_refl _, h0⟩
  · rw [sw_app]
    split
    · rename_i e; rw [← e]; dsimp only; omega
    · have := h.most K; omega
/-- A meter. -/
def MetR (b : Nat) (B P ph N : Int) (ws : List (Int × Int)) : Res := fun w S => ∃ W, Mk w b B P ph N W (sw W ws) ∧ (∀ p ∈ ws, p.1 ≤ W) ∧ W ≤ (N - ph) / P ∧ ∀ c, S c ↔ c = b
theorem MetR.ok (b : Nat) (B P ph N : Int) (ws : List (Int × Int)) : Ok (MetR b B P ph N ws) :=
  ⟨fun ⟨W, h, _, _, hs⟩ c hc => by rw [(hs c).1 hc]; exact Blk.lt h, fun ⟨W, h, h1, h2, hs⟩ hk => ⟨W, (hk b ((hs b).2 rfl)).trans h, h1, h2, hs⟩⟩
theorem tkn_sw {W K : Int} {ws : List (Int × Int)} (h : ∀ p ∈ ws, p.1 ≤ W) (hK : W ≤ K) : tkn W (sw W ws) K = sw K ws := by
  unfold tkn
  by_cases e : W = K
  · rw [if_pos e, e]
  · rw [if_neg e, sw_zero h (by omega)]
section
variable {w0 w w' : World} {S0 : Nat → Prop} {L : List Res} {b : Nat} {B P ph N now n v f N' : Int} {ws : List (Int × Int)}
theorem left_hor (b : Nat) (now : Int) (w : World) (hl : ¬ now < 4611686018427387904) :
    Calls Try.prog 37 #[.pointer (some ⟨b, 0, none⟩), .int .u64 now] w fun e w' => e = .returned (.tuple #[.int .u64 0, .int .i64 2]) ∧ Below w.heap.size w w' := by
  go_enter Try.func37, Try.ntmps37
  go_wp2_with (first | (go_at_call 25; refine (tmay_no _ _ hl).mono ?_; rintro e w' ⟨rfl, rfl⟩) | go_in)
  go_ret2
  exact ⟨rfl, Below.refl _ _⟩
theorem left_arg (b : Nat) (B P ph N W T now : Int) (w : World) (hb : Mk w b B P ph N W T) (hl : now < 4611686018427387904) (hN : now < N) :
    Calls Try.prog 37 #[.pointer (some ⟨b, 0, none⟩), .int .u64 now] w fun e w' => e = .returned (.tuple #[.int .u64 0, .int .i64 1]) ∧ Below w.heap.size w w' := by
  have c3 := hb.c3
  have d1 : decide (now < N) = true := decide_eq_true hN
  go_enter Try.func37, Try.ntmps37
  go_wp2_with (first | (go_at_call 25; refine (tmay_yes _ _ hl).mono ?_; rintro e w' ⟨rfl, rfl⟩) | go_in)
  go_ret2
  exact ⟨rfl, Below.refl _ _⟩
theorem take_hor (b : Nat) (B P ph N W T now n : Int) (w : World) (hb : Mk w b B P ph N W T) (hT : 0 ≤ T ∧ T ≤ 1099511627776) (hl : ¬ now < 4611686018427387904) :
    Calls Try.prog 38 #[.pointer (some ⟨b, 0, none⟩), .int .u64 now, .int .u64 n] w fun e w' => e = .returned (.tuple #[.int .u64 0, .int .i64 2]) ∧ Mk w' b B P ph N W T ∧ Only b w w' := by
  have hbl := Blk.lt hb
  have h1 : Mk (w.alloc (.cells #[.int .u64 n] 23)) b B P ph N W T := Blk.alloc hb _
  have c5 := h1.c5
  have f5 := Blk.frozen h1 5
  go_enter Try.func38, Try.ntmps38
  go_wp2_with (first | (go_at_call 25; refine (tmay_no _ _ hl).mono ?_; rintro e w' ⟨rfl, rfl⟩) | go_in)
  go_ret2
  refine ⟨rfl, Blk.alloc ?_ _, ((Only.refl _ _).set_ 5 _).alloc _⟩
  have := Blk.set_ hb 5 (.int .u64 T)
  simpa [Mk] using this
theorem take_arg (b : Nat) (B P ph N W T now n : Int) (w : World) (hb : Mk w b B P ph N W T) (hT : 0 ≤ T ∧ T ≤ 1099511627776) (hl : now < 4611686018427387904) (hN : now < N) :
    Calls Try.prog 38 #[.pointer (some ⟨b, 0, none⟩), .int .u64 now, .int .u64 n] w fun e w' => e = .returned (.tuple #[.int .u64 0, .int .i64 1]) ∧ Mk w' b B P ph N W T ∧ Only b w w' := by
  have hbl := Blk.lt hb
  have h1 : Mk (w.alloc (.cells #[.int .u64 n] 23)) b B P ph N W T := Blk.alloc hb _
  have c3 := h1.c3
  have c5 := h1.c5
  have f5 := Blk.frozen h1 5
  have d1 : decide (now < N) = true := decide_eq_true hN
  go_enter Try.func38, Try.ntmps38
  go_wp2_with (first | (go_at_call 25; refine (tmay_yes _ _ hl).mono ?_; rintro e w' ⟨rfl, rfl⟩) | go_in)
  go_ret2
  refine ⟨rfl, Blk.alloc ?_ _, ((Only.refl _ _).set_ 5 _).alloc _⟩
  have := Blk.set_ hb 5 (.int .u64 T)
  simpa [Mk] using this
theorem met_new (Hs : St w0 S0 w L) (h : 1 ≤ B ∧ B ≤ P ∧ P ≤ 1099511627776) (hp0 : 0 ≤ ph) (hp : ph < 4611686018427387904) :
    Calls Try.prog 21 #[.agg #[.int .u64 B, .int .u64 P], .int .u64 ph] w fun r w' => ∃ b, r = .returned (.tuple #[.pointer (some ⟨b, 0, none⟩), .int .i64 0]) ∧ St w0 S0 w' (L ++ [MetR b B P ph ph []]) :=
  (new_ok B P ph w h hp).mono fun r w' ⟨b, hb, he, hm, hw⟩ => ⟨b, he, Hs.more hw (Star.one (MetR.ok _ _ _ _ _ _) ⟨0, hm, fun p hp => by simp at hp, by simp, fun c => Iff.rfl⟩) fun c hc => by have hc : c = b := hc; omega⟩
theorem met_ok (h : XOK B P ph N ws) {W : Int} (hw : ∀ p ∈ ws, p.1 ≤ W) : MOK B P ph N W (sw W ws) := ⟨h.share.1, h.share.2.1, h.share.2.2, h.n.1, h.n.2.1, sw_pos (fun p hp => (h.win p hp).2.2) W, h.most W⟩
theorem met_left (Hs : St w0 S0 w L) (i : Nat) (hi : L[i]? = some (MetR b B P ph N ws)) (ho : XOK B P ph N ws) (hR : LeftR B P ph N ws now v f N') :
    Calls Try.prog 37 #[.pointer (some ⟨b, 0, none⟩), .int .u64 now] w fun e w' => e = .returned (.tuple #[.int .u64 v, .int .i64 f]) ∧ St w0 S0 w' (L.set i (MetR b B P ph N' ws)) := by
  refine St.call (R := MetR b B P ph N ws) (Post := fun e => e = .returned (.tuple #[.int .u64 v, .int .i64 f])) (fun w S ⟨W, h1, h2, h3, hs⟩ => ?_) (MetR.ok _ _ _ _ _ _) Hs i hi
  rcases hR with ⟨g1, rfl, rfl, rfl⟩ | ⟨g1, g2, rfl, rfl, rfl⟩ | ⟨g1, g2, rfl, rfl, rfl⟩
  · exact (left_hor b now w g1).mono fun e w' ⟨he, hb⟩ => ⟨he, S, ⟨W, Blk.stay h1 hb, h2, h3, hs⟩, Did.below hb⟩
  · exact (left_arg b B P ph N' W _ now w h1 g1 g2).mono fun e w' ⟨he, hb⟩ => ⟨he, S, ⟨W, Blk.stay h1 hb, h2, h3, hs⟩, Did.below hb⟩
  · have hK : (N - ph) / P ≤ (N' - ph) / P := Int.ediv_le_ediv (by have := ho.share; omega) (by omega)
    have C := left_ok b B P ph N W _ N' w h1 (met_ok ho h2) g2 g1
    rw [tkn_sw h2 (by omega)] at C
    exact C.mono fun e w' ⟨he, hb, hO⟩ => ⟨he, S, ⟨_, hb, fun p hp => by have := h2 p hp; omega, Int.le_refl _, hs⟩, Did.of_only hO ((hs b).2 rfl) fun c hc => Or.inl hc⟩
/-- A take: refused, or so many of what is left. -/
def TakeR (B P ph N : Int) (ws : List (Int × Int)) (now n v f N' : Int) (ws' : List (Int × Int)) : Prop :=
  ∃ l, LeftR B P ph N ws now l f N' ∧ ((f ≠ 0 ∧ v = 0 ∧ ws' = ws) ∨ (f = 0 ∧ v = mn n l ∧ ws' = ws ++ [((now - ph) / P, v)]))
theorem takeR_ex (B P ph N : Int) (ws : List (Int × Int)) (now n : Int) : ∃ v f N' ws', TakeR B P ph N ws now n v f N' ws' := by
  obtain ⟨l, f, N', h⟩ := leftR_ex B P ph N ws now
  by_cases hf : f = 0
  · exact ⟨_, f, N', _, l, h, Or.inr ⟨hf, rfl, rfl⟩⟩
  · exact ⟨_, f, N', _, l, h, Or.inl ⟨hf, rfl, rfl⟩⟩
theorem LeftR.ok {B P ph N now v f N' : Int} {ws : List (Int × Int)} (h : LeftR B P ph N ws now v f N') (hf : f = 0) : now < 4611686018427387904 ∧ N ≤ now ∧ v = B - sw ((now - ph) / P) ws ∧ N' = now := by
  rcases h with ⟨_, _, h, _⟩ | ⟨_, _, _, h, _⟩ | ⟨h1, h2, h3, _, h4⟩
  · omega
  · omega
  · exact ⟨h1, h2, h3, h4⟩
theorem TakeR.xok {ws' : List (Int × Int)} (hR : TakeR B P ph N ws now n v f N' ws') (hn : 0 ≤ n) (h : XOK B P ph N ws) : XOK B P ph N' ws' := by
  obtain ⟨l, hL, ⟨_, _, rfl⟩ | ⟨h1, h2, rfl⟩⟩ := hR
  · exact hL.xok h
  · have hx := hL.xok h
    obtain ⟨_, _, h3, rfl⟩ := hL.ok h1
    have := h.most ((N' - ph) / P)
    have hb := mn_bd (n := n) (l := l) hn (by omega)
    exact hx.put (by omega) (by omega)
theorem met_take {ws' : List (Int × Int)} (Hs : St w0 S0 w L) (i : Nat) (hi : L[i]? = some (MetR b B P ph N ws)) (ho : XOK B P ph N ws) (hn : 0 ≤ n) (hR : TakeR B P ph N ws now n v f N' ws') :
    Calls Try.prog 38 #[.pointer (some ⟨b, 0, none⟩), .int .u64 now, .int .u64 n] w fun e w' => e = .returned (.tuple #[.int .u64 v, .int .i64 f]) ∧ St w0 S0 w' (L.set i (MetR b B P ph N' ws')) := by
  refine St.call (R := MetR b B P ph N ws) (Post := fun e => e = .returned (.tuple #[.int .u64 v, .int .i64 f])) (fun w S ⟨W, h1, h2, h3, hs⟩ => ?_) (MetR.ok _ _ _ _ _ _) Hs i hi
  have hM := met_ok ho h2
  have hT : 0 ≤ sw W ws ∧ sw W ws ≤ 1099511627776 := ⟨hM.2.2.2.2.2.1, by have := hM.2.2.2.2.2.2; have := ho.share; omega⟩
  obtain ⟨l, hL, hh⟩ := hR
  rcases hL with ⟨g1, rfl, rfl, rfl⟩ | ⟨g1, g2, rfl, rfl, rfl⟩ | ⟨g1, g2, rfl, rfl, rfl⟩
  · obtain ⟨_, rfl, rfl⟩ | ⟨k, _⟩ := hh
    · exact (take_hor b B P ph N' W _ now n w h1 hT g1).mono fun e w' ⟨he, hb, hO⟩ => ⟨he, S, ⟨W, hb, h2, h3, hs⟩, Did.of_only hO ((hs b).2 rfl) fun c hc => Or.inl hc⟩
    · omega
  · obtain ⟨_, rfl, rfl⟩ | ⟨k, _⟩ := hh
    · exact (take_arg b B P ph N' W _ now n w h1 hT g1 g2).mono fun e w' ⟨he, hb, hO⟩ => ⟨he, S, ⟨W, hb, h2, h3, hs⟩, Did.of_only hO ((hs b).2 rfl) fun c hc => Or.inl hc⟩
    · omega
  · obtain ⟨k, _⟩ | ⟨_, rfl, rfl⟩ := hh
    · omega
    · have hK : (N - ph) / P ≤ (N' - ph) / P := Int.ediv_le_ediv (by have := ho.share; omega) (by omega)
      have C := take_ok b B P ph N W _ N' n w h1 hM g2 g1 hn
      rw [tkn_sw h2 (by omega)] at C
      refine C.mono fun e w' ⟨he, hb, hO⟩ => ⟨he, S, ⟨(N' - ph) / P, ?_, fun p hp => ?_, Int.le_refl _, hs⟩, Did.of_only hO ((hs b).2 rfl) fun c hc => Or.inl hc⟩
      · rw [sw_app, if_pos rfl]; exact hb
      · rcases List.mem_append.1 hp with hp | hp
        · have := h2 p hp; omega
        · simp at hp; subst hp; exact Int.le_refl _
/-- A wait: the answer, and the time that is known then. The document's own meter knows the time also where the next window isn't a time. -/
def WaitR (B P ph N : Int) (ws : List (Int × Int)) (now v f N' M' : Int) : Prop :=
  ∃ l g N1, LeftR B P ph N ws now l g N1 ∧ ((g ≠ 0 ∧ v = 0 ∧ f = g ∧ N' = N1 ∧ M' = N1) ∨ (g = 0 ∧ 0 < l ∧ v = now ∧ f = 0 ∧ N' = N1 ∧ M' = N1) ∨
    (g = 0 ∧ l = 0 ∧ ph + (now - ph) / P * P + P < 4611686018427387904 ∧ v = ph + (now - ph) / P * P + P ∧ f = 0 ∧ N' = N1 ∧ M' = N1) ∨ (g = 0 ∧ l = 0 ∧ 4611686018427387904 ≤ ph + (now - ph) / P * P + P ∧ v = 0 ∧ f = 2 ∧ N' = N ∧ M' = N1))
theorem waitR_ex (ho : XOK B P ph N ws) (now : Int) : ∃ v f N' M', WaitR B P ph N ws now v f N' M' := by
  obtain ⟨l, g, N1, h⟩ := leftR_ex B P ph N ws now
  by_cases hg : g = 0
  · have hl : 0 ≤ l := by have := h.ok hg; have := ho.most ((now - ph) / P); omega
    by_cases h0 : l = 0
    · by_cases hx : ph + (now - ph) / P * P + P < 4611686018427387904
      · exact ⟨_, _, _, _, l, g, N1, h, Or.inr (Or.inr (Or.inl ⟨hg, h0, hx, rfl, rfl, rfl, rfl⟩))⟩
      · exact ⟨_, _, _, _, l, g, N1, h, Or.inr (Or.inr (Or.inr ⟨hg, h0, by omega, rfl, rfl, rfl, rfl⟩))⟩
    · exact ⟨_, _, _, _, l, g, N1, h, Or.inr (Or.inl ⟨hg, by omega, rfl, rfl, rfl, rfl⟩)⟩
  · exact ⟨_, _, _, _, l, g, N1, h, Or.inl ⟨hg, rfl, rfl, rfl, rfl⟩⟩
/-- Behind a wait both tell the same of what is left at that time. -/
theorem WaitR.left {M' : Int} (hR : WaitR B P ph N ws now v f N' M') : ∃ x g N2, LeftR B P ph N' ws now x g N2 ∧ LeftR B P ph M' ws now x g N2 := by
  obtain ⟨l, g, N1, hL, hh⟩ := hR
  rcases hL with ⟨g1, rfl, rfl, rfl⟩ | ⟨g1, g2, rfl, rfl, rfl⟩ | ⟨g1, g2, rfl, rfl, rfl⟩
  · rcases hh with ⟨_, _, _, rfl, rfl⟩ | ⟨h, _⟩ | ⟨h, _⟩ | ⟨h, _⟩
    · exact ⟨_, _, _, Or.inl ⟨g1, rfl, rfl, rfl⟩, Or.inl ⟨g1, rfl, rfl, rfl⟩⟩
    all_goals omega
  · rcases hh with ⟨_, _, _, rfl, rfl⟩ | ⟨h, _⟩ | ⟨h, _⟩ | ⟨h, _⟩
    · exact ⟨_, _, _, Or.inr (Or.inl ⟨g1, g2, rfl, rfl, rfl⟩), Or.inr (Or.inl ⟨g1, g2, rfl, rfl, rfl⟩)⟩
    all_goals omega
  · have hle : N' ≤ N1 ∧ M' = N1 := by
      rcases hh with ⟨h, _⟩ | ⟨_, _, _, _, h, h'⟩ | ⟨_, _, _, _, _, h, h'⟩ | ⟨_, _, _, _, _, h, h'⟩ <;> omega
    exact ⟨_, _, _, Or.inr (Or.inr ⟨g1, hle.1, rfl, rfl, rfl⟩), Or.inr (Or.inr ⟨g1, by omega, rfl, rfl, rfl⟩)⟩
theorem WaitR.xok {M' : Int} (hR : WaitR B P ph N ws now v f N' M') (h : XOK B P ph N ws) : XOK B P ph N' ws ∧ XOK B P ph M' ws := by
  obtain ⟨l, g, N1, hL, hh⟩ := hR
  have h1 := hL.xok h
  rcases hh with ⟨_, _, _, rfl, rfl⟩ | ⟨_, _, _, _, rfl, rfl⟩ | ⟨_, _, _, _, _, rfl, rfl⟩ | ⟨_, _, _, _, _, rfl, rfl⟩
  · exact ⟨h1, h1⟩
  · exact ⟨h1, h1⟩
  · exact ⟨h1, h1⟩
  · exact ⟨h, h1⟩
end
end Go.Proofs.Ytabocojmobbpaaa
