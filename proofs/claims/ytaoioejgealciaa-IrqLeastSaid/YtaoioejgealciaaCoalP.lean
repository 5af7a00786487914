/- Layer 11: a gatherer, and the document's own, beside other things. -/
import Derived.Test.YtaoioejgealciaaCoalN
import Derived.Test.YtaoioejgealciaaLis
import Derived.BigQuiet
import Derived.RegionTactic
namespace Go.Proofs.Ytaoioejgealciaa
open Go.RowKit
set_option linter.unusedVariables false
set_option maxRecDepth 100000
/-- The time goes on: how many are fired, the code, what is known then. -/
def GoR (H N : Int) (ws : List Int) (now n f N' : Int) (ws' : List Int) : Prop :=
  (¬ now < 4611686018427387904 ∧ n = 0 ∧ f = 2 ∧ N' = N ∧ ws' = ws) ∨ (now < 4611686018427387904 ∧ now < N ∧ n = 0 ∧ f = 1 ∧ N' = N ∧ ws' = ws) ∨
  (now < 4611686018427387904 ∧ N ≤ now ∧ 1 ≤ ws.length ∧ ws.getD 0 0 + H ≤ now ∧ n = ws.length ∧ f = 0 ∧ N' = now ∧ ws' = []) ∨
  (now < 4611686018427387904 ∧ N ≤ now ∧ (ws = [] ∨ now < ws.getD 0 0 + H) ∧ n = 0 ∧ f = 0 ∧ N' = now ∧ ws' = ws)
theorem goR_ex (H N : Int) (ws : List Int) (now : Int) : ∃ n f N' ws', GoR H N ws now n f N' ws' := by
  by_cases h1 : now < 4611686018427387904
  · by_cases h2 : now < N
    · exact ⟨_, _, _, _, Or.inr (Or.inl ⟨h1, h2, rfl, rfl, rfl, rfl⟩)⟩
    · by_cases h3 : 1 ≤ ws.length ∧ ws.getD 0 0 + H ≤ now
      · exact ⟨_, _, _, _, Or.inr (Or.inr (Or.inl ⟨h1, by omega, h3.1, h3.2, rfl, rfl, rfl, rfl⟩))⟩
      · refine ⟨_, _, _, _, Or.inr (Or.inr (Or.inr ⟨h1, by omega, ?_, rfl, rfl, rfl, rfl⟩))⟩
        by_cases h4 : ws.length = 0
        · exact Or.inl (List.eq_nil_of_length_eq_zero h4)
        · exact Or.inr (by omega)
  · exact ⟨_, _, _, _, Or.inl ⟨h1, rfl, rfl, rfl, rfl⟩⟩
def RaiseR (C H N : Int) (ws : List Int) (now n f N' : Int) (ws' : List Int) : Prop :=
  ∃ n1 f1 N1 ws1, GoR H N ws now n1 f1 N1 ws1 ∧ ((f1 ≠ 0 ∧ n = 0 ∧ f = f1 ∧ N' = N1 ∧ ws' = ws1) ∨
    (f1 = 0 ∧ f = 0 ∧ N' = N1 ∧ (C ≤ ((ws1.length : Int) + 1) ∨ H = 0) ∧ n = n1 + (ws1.length + 1) ∧ ws' = []) ∨ (f1 = 0 ∧ f = 0 ∧ N' = N1 ∧ ¬ (C ≤ ((ws1.length : Int) + 1) ∨ H = 0) ∧ n = n1 ∧ ws' = ws1 ++ [now]))
theorem raiseR_ex (C H N : Int) (ws : List Int) (now : Int) : ∃ n f N' ws', RaiseR C H N ws now n f N' ws' := by
  obtain ⟨n1, f1, N1, ws1, h⟩ := goR_ex H N ws now
  by_cases h1 : f1 = 0
  · by_cases h2 : C ≤ ((ws1.length : Int) + 1) ∨ H = 0
    · exact ⟨_, _, _, _, n1, f1, N1, ws1, h, Or.inr (Or.inl ⟨h1, rfl, rfl, h2, rfl, rfl⟩)⟩
    · exact ⟨_, _, _, _, n1, f1, N1, ws1, h, Or.inr (Or.inr ⟨h1, rfl, rfl, h2, rfl, rfl⟩)⟩
  · exact ⟨_, _, _, _, n1, f1, N1, ws1, h, Or.inl ⟨h1, rfl, rfl, rfl, rfl⟩⟩
def DueR (H : Int) (ws : List Int) (v : Int) (ok : Bool) : Prop :=
  (ws = [] ∧ v = 0 ∧ ok = false) ∨ (1 ≤ ws.length ∧ ws.getD 0 0 + H < 4611686018427387904 ∧ v = ws.getD 0 0 + H ∧ ok = true) ∨ (1 ≤ ws.length ∧ ¬ ws.getD 0 0 + H < 4611686018427387904 ∧ v = 0 ∧ ok = false)
theorem dueR_ex (H : Int) (ws : List Int) : ∃ v ok, DueR H ws v ok := by
  by_cases h0 : ws.length = 0
  · exact ⟨_, _, Or.inl ⟨List.eq_nil_of_length_eq_zero h0, rfl, rfl⟩⟩
  · by_cases h1 : ws.getD 0 0 + H < 4611686018427387904
    · exact ⟨_, _, Or.inr (Or.inl ⟨by omega, h1, rfl, rfl⟩)⟩
    · exact ⟨_, _, Or.inr (Or.inr ⟨by omega, h1, rfl, rfl⟩)⟩
/-- What holds between two calls. -/
structure WOK (C H N : Int) (ws : List Int) : Prop where
  c : 1 ≤ C ∧ C ≤ 1000 ∧ 0 ≤ H ∧ H ≤ 1099511627776
  n : 0 ≤ N ∧ N < 4611686018427387904
  len : (ws.length : Int) < C
  all : ∀ k : Nat, k < ws.length → 0 ≤ ws.getD k 0 ∧ ws.getD k 0 < 4611686018427387904
theorem WOK.go {C H N now n f N' : Int} {ws ws' : List Int} (h : WOK C H N ws) (hn : 0 ≤ now) (hR : GoR H N ws now n f N' ws') : WOK C H N' ws' := by
  rcases hR with ⟨_, _, _, rfl, rfl⟩ | ⟨_, _, _, _, rfl, rfl⟩ | ⟨h1, h2, h3, h4, _, _, rfl, rfl⟩ | ⟨h1, h2, h3, _, _, rfl, rfl⟩
  · exact h
  · exact h
  · exact ⟨h.c, ⟨hn, h1⟩, by have := h.c; simp; omega, fun k hk => by simp at hk⟩
  · exact ⟨h.c, ⟨hn, h1⟩, h.len, h.all⟩
theorem GoR.ok {H N now n f N' : Int} {ws ws' : List Int} (hR : GoR H N ws now n f N' ws') (hf : f = 0) : now < 4611686018427387904 ∧ N' = now := by
  rcases hR with ⟨_, _, h, _⟩ | ⟨_, _, _, h, _⟩ | ⟨h1, h2, h3, h4, _, _, h5, _⟩ | ⟨h1, h2, h3, _, _, h5, _⟩
  · omega
  · omega
  · exact ⟨h1, h5⟩
  · exact ⟨h1, h5⟩
theorem getD_app (ws : List Int) (x : Int) (k : Nat) : (ws ++ [x]).getD k 0 = if k < ws.length then ws.getD k 0 else if k = ws.length then x else 0 := by
  simp only [List.getD]
  by_cases h1 : k < ws.length
  · rw [if_pos h1, List.getElem?_append_left h1]
  · rw [if_neg h1, List.getElem?_append_right (by omega)]
    by_cases h2 : k = ws.length
    · subst h2; simp
    · rw [if_neg h2, List.getElem?_eq_none (by simp; omega)]; rfl
theorem WOK.raise {C H N now n f N' : Int} {ws ws' : List Int} (h : WOK C H N ws) (hn : 0 ≤ now) (hR : RaiseR C H N ws now n f N' ws') : WOK C H N' ws' := by
  obtain ⟨n1, f1, N1, ws1, hG, hh⟩ := hR
  have hk := h.go hn hG
  rcases hh with ⟨_, _, _, rfl, rfl⟩ | ⟨h1, _, rfl, h2, _, rfl⟩ | ⟨h1, _, rfl, h2, _, rfl⟩
  · exact hk
  · exact ⟨hk.c, hk.n, by have := h.c; simp; omega, fun k hk => by simp at hk⟩
  · obtain ⟨g1, g2⟩ := hG.ok h1
    refine ⟨hk.c, hk.n, by simp; omega, fun k hkl => ?_⟩
    rw [getD_app]
    split
    · rename_i h3; exact hk.all k h3
    · rw [if_pos (by simp at hkl; omega)]; omega
/-- A gatherer. -/
def GatR (b : Nat) (C H N : Int) (ws : List Int) : Res := fun w S => ∃ F, Gk w b C H N ws.length F ∧ (1 ≤ ws.length → ws.getD 0 0 = F) ∧ 0 ≤ F ∧ F < 4611686018427387904 ∧ ∀ c, S c ↔ c = b
theorem GatR.ok (b : Nat) (C H N : Int) (ws : List Int) : Ok (GatR b C H N ws) :=
  ⟨fun ⟨F, h, _, _, _, hs⟩ c hc => by rw [(hs c).1 hc]; exact Blk.lt h, fun ⟨F, h, h1, h2, h3, hs⟩ hk => ⟨F, (hk b ((hs b).2 rfl)).trans h, h1, h2, h3, hs⟩⟩
theorem go_hor (b : Nat) (C H N K F now : Int) (w : World) (hb : Gk w b C H N K F) (hl : ¬ now < 4611686018427387904) :
    Calls Try.prog 42 #[.pointer (some ⟨b, 0, none⟩), .int .u64 now] w fun e w' => e = .returned (.tuple #[.int .i64 0, .int .i64 2]) ∧ Gk w' b C H N K F ∧ Only b w w' := by
  go_enter Try.func42, Try.ntmps42
  go_wp2_with (first | (go_at_call 38; refine (may_no _ _ hl).mono ?_; rintro e w' ⟨rfl, rfl⟩) | go_in)
  go_ret2
  exact ⟨rfl, hb, Only.refl _ _⟩
theorem go_arg (b : Nat) (C H N K F now : Int) (w : World) (hb : Gk w b C H N K F) (hl : now < 4611686018427387904) (hN : now < N) :
    Calls Try.prog 42 #[.pointer (some ⟨b, 0, none⟩), .int .u64 now] w fun e w' => e = .returned (.tuple #[.int .i64 0, .int .i64 1]) ∧ Gk w' b C H N K F ∧ Only b w w' := by
  have c2 := Gk.c2 hb
  have d1 : decide (now < N) = true := decide_eq_true hN
  go_enter Try.func42, Try.ntmps42
  go_wp2_with (first | (go_at_call 38; refine (may_yes _ _ hl).mono ?_; rintro e w' ⟨rfl, rfl⟩) | go_in)
  go_ret2
  exact ⟨rfl, hb, Only.refl _ _⟩
section
variable {w0 w w' : World} {S0 : Nat → Prop} {L : List Res} {b : Nat} {C H N now n f N' v : Int} {ok : Bool} {ws ws' : List Int}
theorem gat_new (Hs : St w0 S0 w L) (h : 1 ≤ C ∧ C ≤ 1000 ∧ 0 ≤ H ∧ H ≤ 1099511627776) :
    Calls Try.prog 22 #[.int .i64 C, .int .u64 H] w fun r w' => ∃ b, r = .returned (.tuple #[.pointer (some ⟨b, 0, none⟩), .int .i64 0]) ∧ St w0 S0 w' (L ++ [GatR b C H 0 []]) :=
  (new_ok C H w h).mono fun r w' ⟨he, hb, hz, hw⟩ => ⟨_, he, Hs.more hw (Star.one (GatR.ok _ _ _ _ _) ⟨0, hb, fun h => by simp at h, by omega, by omega, fun c => Iff.rfl⟩) fun c hc => by have hc : c = w.heap.size := hc; omega⟩
theorem gat_go (Hs : St w0 S0 w L) (i : Nat) (hi : L[i]? = some (GatR b C H N ws)) (ho : WOK C H N ws) (hR : GoR H N ws now n f N' ws') :
    Calls Try.prog 42 #[.pointer (some ⟨b, 0, none⟩), .int .u64 now] w fun e w' => e = .returned (.tuple #[.int .i64 n, .int .i64 f]) ∧ St w0 S0 w' (L.set i (GatR b C H N' ws')) := by
  refine St.call (R := GatR b C H N ws) (Post := fun e => e = .returned (.tuple #[.int .i64 n, .int .i64 f])) (fun w S ⟨F, h1, h2, h3, h4, hs⟩ => ?_) (GatR.ok _ _ _ _ _) Hs i hi
  have hl := ho.len
  have hc := ho.c
  have hn := ho.n
  have fin : ∀ {w' : World} {K : Int} (ws2 : List Int) (N2 : Int), K = ws2.length → (1 ≤ ws2.length → ws2.getD 0 0 = F) → Gk w' b C H N2 K F → Only b w w' → ∃ S', GatR b C H N2 ws2 w' S' ∧ Did S S' w w' :=
    fun ws2 N2 hK hF hb hO => ⟨S, ⟨F, by rw [← hK]; exact hb, hF, h3, h4, hs⟩, Did.of_only hO ((hs b).2 rfl) fun c hc => Or.inl hc⟩
  have hOK : KOK C H N ws.length F := ⟨by omega, by omega, by omega, by omega, by omega, by omega, by omega, h3, h4⟩
  rcases hR with ⟨g1, rfl, rfl, rfl, rfl⟩ | ⟨g1, g2, rfl, rfl, rfl, rfl⟩ | ⟨g1, g2, g3, g4, rfl, rfl, rfl, rfl⟩ | ⟨g1, g2, g3, rfl, rfl, rfl, rfl⟩
  · exact (go_hor b C H N' _ F now w h1 g1).mono fun e w' ⟨he, hb, hO⟩ => ⟨he, fin _ _ rfl h2 hb hO⟩
  · exact (go_arg b C H N' _ F now w h1 g1 g2).mono fun e w' ⟨he, hb, hO⟩ => ⟨he, fin _ _ rfl h2 hb hO⟩
  · exact (go_due b C H N _ F N' w h1 hOK g2 g1 (by omega) (by rw [← h2 g3]; exact g4)).mono fun e w' ⟨he, hb, hO⟩ => ⟨he, fin [] _ rfl (fun h => by simp at h) hb hO⟩
  · refine (go_not b C H N _ F N' w h1 hOK g2 g1 ?_).mono fun e w' ⟨he, hb, hO⟩ => ⟨he, fin _ _ rfl h2 hb hO⟩
    rcases g3 with g3 | g3
    · left; rw [g3]; rfl
    · by_cases h0 : ws'.length = 0
      · left; omega
      · right; rw [← h2 (by omega)]; exact g3
theorem gat_raise (Hs : St w0 S0 w L) (i : Nat) (hi : L[i]? = some (GatR b C H N ws)) (ho : WOK C H N ws) (hnow : 0 ≤ now) (hR : RaiseR C H N ws now n f N' ws') :
    Calls Try.prog 37 #[.pointer (some ⟨b, 0, none⟩), .int .u64 now] w fun e w' => e = .returned (.tuple #[.int .i64 n, .int .i64 f]) ∧ St w0 S0 w' (L.set i (GatR b C H N' ws')) := by
  refine St.call (R := GatR b C H N ws) (Post := fun e => e = .returned (.tuple #[.int .i64 n, .int .i64 f])) (fun w S ⟨F, h1, h2, h3, h4, hs⟩ => ?_) (GatR.ok _ _ _ _ _) Hs i hi
  have hl := ho.len
  have hc := ho.c
  have hn := ho.n
  have fin : ∀ {w' : World} {K F2 : Int} (ws2 : List Int) (N2 : Int), K = ws2.length → (1 ≤ ws2.length → ws2.getD 0 0 = F2) → 0 ≤ F2 → F2 < 4611686018427387904 → Gk w' b C H N2 K F2 → Only b w w' → ∃ S', GatR b C H N2 ws2 w' S' ∧ Did S S' w w' :=
    fun ws2 N2 hK hF k3 k4 hb hO => ⟨S, ⟨_, by rw [← hK]; exact hb, hF, k3, k4, hs⟩, Did.of_only hO ((hs b).2 rfl) fun c hc => Or.inl hc⟩
  have hOK : KOK C H N ws.length F := ⟨by omega, by omega, by omega, by omega, by omega, by omega, by omega, h3, h4⟩
  obtain ⟨n1, f1, N1, ws1, hG, hh⟩ := hR
  rcases hG with ⟨g1, rfl, rfl, rfl, rfl⟩ | ⟨g1, g2, rfl, rfl, rfl, rfl⟩ | ⟨g1, g2, g3, g4, rfl, rfl, rfl, rfl⟩ | ⟨g1, g2, g3, rfl, rfl, rfl, rfl⟩
  · rcases hh with ⟨_, rfl, rfl, rfl, rfl⟩ | ⟨k, _⟩ | ⟨k, _⟩
    · exact (raise_hor b C H N' _ F now w h1 g1).mono fun e w' ⟨he, hb, hO⟩ => ⟨he, fin _ _ rfl h2 h3 h4 hb hO⟩
    · omega
    · omega
  · rcases hh with ⟨_, rfl, rfl, rfl, rfl⟩ | ⟨k, _⟩ | ⟨k, _⟩
    · exact (raise_arg b C H N' _ F now w h1 g1 g2).mono fun e w' ⟨he, hb, hO⟩ => ⟨he, fin _ _ rfl h2 h3 h4 hb hO⟩
    · omega
    · omega
  · have R := raise_due b C H N _ F N1 w h1 hOK g2 g1 (by omega) (by rw [← h2 g3]; exact g4)
    rcases hh with ⟨k, _⟩ | ⟨_, rfl, rfl, k, rfl, rfl⟩ | ⟨_, rfl, rfl, k, rfl, rfl⟩
    · omega
    · have k' : C ≤ 0 + 1 ∨ H = 0 := by simpa using k
      unfold rR rK at R
      rw [if_pos k', if_pos k'] at R
      exact R.mono fun e w' ⟨he, hb, hO⟩ => ⟨by rw [he]; simp, fin [] _ rfl (fun h => by simp at h) hnow g1 hb hO⟩
    · have k' : ¬ (C ≤ 0 + 1 ∨ H = 0) := by simpa using k
      unfold rR rK at R
      rw [if_neg k', if_neg k'] at R
      exact R.mono fun e w' ⟨he, hb, hO⟩ => ⟨by rw [he]; simp, fin [N'] _ rfl (fun h => rfl) hnow g1 hb hO⟩
  · have hd : (ws1.length : Int) = 0 ∨ N1 < F + H := by
      rcases g3 with g3 | g3
      · left; rw [g3]; rfl
      · by_cases h0 : ws1.length = 0
        · left; omega
        · right; rw [← h2 (by omega)]; exact g3
    have R := raise_not b C H N _ F N1 w h1 hOK g2 g1 (by omega) hd
    have hF : 0 ≤ rF ws1.length F N1 ∧ rF ws1.length F N1 < 4611686018427387904 := by unfold rF; split <;> omega
    rcases hh with ⟨k, _⟩ | ⟨_, rfl, rfl, k, rfl, rfl⟩ | ⟨_, rfl, rfl, k, rfl, rfl⟩
    · omega
    · unfold rR rK at R
      rw [if_pos k, if_pos k] at R
      exact R.mono fun e w' ⟨he, hb, hO⟩ => ⟨by rw [he]; simp, fin [] _ rfl (fun h => by simp at h) hF.1 hF.2 hb hO⟩
    · unfold rR rK at R
      rw [if_neg k, if_neg k] at R
      refine R.mono fun e w' ⟨he, hb, hO⟩ => ⟨he, fin (ws1 ++ [N']) _ (by simp) (fun _ => ?_) hF.1 hF.2 hb hO⟩
      rw [getD_app]
      unfold rF
      by_cases h0 : ws1.length = 0
      · rw [if_neg (by omega), if_pos (by omega), if_pos (by omega)]
      · rw [if_pos (by omega), if_neg (by omega)]; exact h2 (by omega)
theorem gat_due (Hs : St w0 S0 w L) (i : Nat) (hi : L[i]? = some (GatR b C H N ws)) (ho : WOK C H N ws) (hR : DueR H ws v ok) :
    Calls Try.prog 39 #[.pointer (some ⟨b, 0, none⟩)] w fun e w' => e = .returned (.tuple #[.int .u64 v, .bool ok]) ∧ St w0 S0 w' (L.set i (GatR b C H N ws)) := by
  refine St.call (R := GatR b C H N ws) (Post := fun e => e = .returned (.tuple #[.int .u64 v, .bool ok])) (fun w S ⟨F, h1, h2, h3, h4, hs⟩ => ?_) (GatR.ok _ _ _ _ _) Hs i hi
  have hc := ho.c
  have fin : ∀ {w' : World}, Gk w' b C H N ws.length F → Only b w w' → ∃ S', GatR b C H N ws w' S' ∧ Did S S' w w' :=
    fun hb hO => ⟨S, ⟨F, hb, h2, h3, h4, hs⟩, Did.of_only hO ((hs b).2 rfl) fun c hc => Or.inl hc⟩
  rcases hR with ⟨rfl, rfl, rfl⟩ | ⟨g1, g2, rfl, rfl⟩ | ⟨g1, g2, rfl, rfl⟩
  · exact (due_none b C H N F w h1).mono fun e w' ⟨he, hb, hO⟩ => ⟨he, fin hb hO⟩
  · have e := h2 g1
    rw [e] at g2 ⊢
    exact (due_some b C H N _ F w h1 h3 hc.2.2.1 hc.2.2.2 (by omega) g2).mono fun e w' ⟨he, hb, hO⟩ => ⟨he, fin hb hO⟩
  · have e := h2 g1
    rw [e] at g2
    exact (due_far b C H N _ F w h1 h3 hc.2.2.1 hc.2.2.2 (by omega) g2).mono fun e w' ⟨he, hb, hO⟩ => ⟨he, fin hb hO⟩
end
end Go.Proofs.Ytaoioejgealciaa
