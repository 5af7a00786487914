/- Layer 6: the document's own bus: all slots that ever were. -/
import Derived.Test.YtabocojmobbpaaaBusW
namespace Go.Proofs.Ytabocojmobbpaaa
open Go.RowKit
set_option linter.unusedVariables false
set_option maxRecDepth 100000
set_option maxHeartbeats 400000
/-- How many slots in a row, up to u, one has had; the newest first. -/
def run (id : Int) : Int → List (Int × Int) → Nat
  | _, [] => 0
  | u, p :: t => if p.2 = id ∧ p.1 + 1 = u then 1 + run id (u - 1) t else 0
/-- All slots as cells, the oldest first. -/
def hc : List (Int × Int) → List Value
  | [] => []
  | p :: t => hc t ++ [.int .u64 p.1, .int .i64 p.2]
theorem hc_len : ∀ l : List (Int × Int), (hc l).length = l.length * 2
  | [] => rfl
  | p :: t => by simp [hc, hc_len t]; omega
theorem hc_at : ∀ {l : List (Int × Int)} {d : Nat} {p : Int × Int}, l[d]? = some p → (hc l)[(l.length - 1 - d) * 2]? = some (.int .u64 p.1) ∧ (hc l)[(l.length - 1 - d) * 2 + 1]? = some (.int .i64 p.2)
  | [], d, p, h => by simp at h
  | q :: t, 0, p, h => by
    simp at h; subst h
    have e : (q :: t).length - 1 - 0 = t.length := by simp
    rw [e]
    unfold hc
    exact ⟨by rw [List.getElem?_append_right (by rw [hc_len]; omega), hc_len]; simp, by rw [List.getElem?_append_right (by rw [hc_len]; omega), hc_len]; simp [show t.length * 2 + 1 - t.length * 2 = 1 by omega]⟩
  | q :: t, d + 1, p, h => by
    have h' : t[d]? = some p := by simpa using h
    have hd := (List.getElem?_eq_some_iff.1 h').1
    have e : (q :: t).length - 1 - (d + 1) = t.length - 1 - d := by simp; omega
    obtain ⟨a, b⟩ := hc_at h'
    rw [e]
    unfold hc
    exact ⟨by rw [List.getElem?_append_left (by rw [hc_len]; omega)]; exact a, by rw [List.getElem?_append_left (by rw [hc_len]; omega)]; exact b⟩
/-- What the slots that were tell of the last one. -/
structure HOK (ph : Int) (s : BS) (hr : List (Int × Int)) : Prop where
  emp : hr = [] → s.next = ph ∧ s.who = -1
  top : ∀ p t, hr = p :: t → p.1 + 1 = s.next ∧ p.2 = s.who
  row : ∀ id : Nat, s.who = id → s.row = run id s.next hr
  nob : s.who = -1 → s.row = 0
  bd : ∀ p ∈ hr, 0 ≤ p.1 ∧ p.1 < 4611686018427387904
theorem run_now {ph : Int} {s : BS} {hr : List (Int × Int)} {now : Int} (h : HOK ph s hr) (hx : s.next ≤ now) (id : Nat) : (run id now hr : Int) = if s.who1 now = id then s.row1 now else 0 := by
  unfold BS.who1 BS.row1
  by_cases hlt : s.next < now
  · rw [if_pos hlt, if_pos hlt, if_neg (by omega)]
    cases hr with
    | nil => rfl
    | cons p t =>
      have := h.top p t rfl
      unfold run
      rw [if_neg (by omega)]; rfl
  · rw [if_neg hlt, if_neg hlt]
    obtain rfl : now = s.next := by omega
    by_cases e : s.who = id
    · rw [if_pos e, h.row id e]
    · rw [if_neg e]
      cases hr with
      | nil => rfl
      | cons p t =>
        have := h.top p t rfl
        unfold run
        rw [if_neg (by omega)]; rfl
theorem hok_begin (ph : Int) : HOK ph (bs0 ph) [] := ⟨fun _ => ⟨rfl, rfl⟩, (fun p t h => by cases h), (fun id h => by have h2 : (-1 : Int) = id := h; omega), fun _ => rfl, (fun p hp => by simp at hp)⟩
theorem hok_next {C : BC} {s s' : BS} {hr : List (Int × Int)} {now v f : Int} {ok : Bool} {want : Nat → Bool} (h : HOK C.ph s hr) (h0 : 0 ≤ now) (hR : SlotR C s now ok want v f s') : ∃ hr', HOK C.ph s' hr' ∧ hr'.length ≤ hr.length + 1 ∧ (f ≠ 2 ∧ f ≠ 1 → hr' = (now, s'.who) :: hr) ∧ (f = 2 ∨ f = 1 → hr' = hr) := by
  rcases hR with ⟨_, _, rfl, rfl⟩ | ⟨_, _, _, rfl, rfl⟩ | ⟨h1, h2, h3, h4, _, rfl, rfl⟩ | ⟨h1, h2, h3, b, hb, h4, _, rfl, rfl⟩
  · exact ⟨hr, h, by omega, fun h => by omega, fun _ => rfl⟩
  · exact ⟨hr, h, by omega, fun h => by omega, fun _ => rfl⟩
  · refine ⟨(now, -1) :: hr, ⟨(fun h => by cases h), fun p t e => ?_, fun id h => ?_, fun _ => rfl, fun p hp => ?_⟩, by simp, fun _ => rfl, fun h => by omega⟩
    · injection e with e1 e2; subst e1; exact ⟨rfl, rfl⟩
    · have : (-1 : Int) = id := h
      omega
    · rcases List.mem_cons.1 hp with e | e
      · subst e; exact ⟨h0, h1⟩
      · exact h.bd p e
  · refine ⟨(now, (b : Int)) :: hr, ⟨(fun h => by cases h), fun p t e => ?_, fun id hid => ?_, fun hn => ?_, fun p hp => ?_⟩, by simp, fun _ => rfl, fun h => by omega⟩
    · injection e with e1 e2; subst e1; exact ⟨rfl, rfl⟩
    · have e : (b : Int) = id := hid
      obtain rfl : b = id := by omega
      show (if s.who1 now = (b : Int) then s.row1 now else 0) + 1 = ((run b (now + 1) ((now, (b : Int)) :: hr) : Nat) : Int)
      have := run_now h h3 b
      have e3 : run b (now + 1) ((now, (b : Int)) :: hr) = 1 + run b now hr := by
        rw [run, if_pos ⟨rfl, rfl⟩, show now + 1 - 1 = now by omega]
      rw [e3]; omega
    · have : (b : Int) = -1 := hn
      omega
    · rcases List.mem_cons.1 hp with e | e
      · subst e; exact ⟨h0, h1⟩
      · exact h.bd p e
/-- The document's meter, asked at M at the latest. -/
def MxE (r : Nat) (B P ph : Int) (ws : List (Int × Int)) (M : Int) : Res := fun w S => ∃ N, N ≤ M ∧ XOK B P ph N ws ∧ MxR r B P ph N ws w S
theorem MxE.ok (r : Nat) (B P ph : Int) (ws : List (Int × Int)) (M : Int) : Ok (MxE r B P ph ws M) :=
  ⟨fun ⟨N, _, _, h⟩ => (MxR.ok _ _ _ _ _ _).lt h, fun ⟨N, h1, h2, h⟩ hk => ⟨N, h1, h2, (MxR.ok _ _ _ _ _ _).frame h hk⟩⟩
theorem MxE.later {r : Nat} {B P ph : Int} {ws : List (Int × Int)} {M M' : Int} {w : World} {S : Nat → Prop} (h : M ≤ M') (hm : MxE r B P ph ws M w S) : MxE r B P ph ws M' w S := by
  obtain ⟨N, h1, h2⟩ := hm; exact ⟨N, Int.le_trans h1 h, h2⟩
theorem mxe_left {r : Nat} {B P ph now : Int} {ws : List (Int × Int)} (h0 : 0 ≤ now) (hnow : now < 4611686018427387904) : ∀ w S, MxE r B P ph ws now w S →
    Calls Try.prog 32 #[.pointer (some ⟨r, 0, none⟩), .int .u64 now] w fun e w' => e = .returned (.tuple #[.int .u64 (B - sw ((now - ph) / P) ws), .int .i64 0]) ∧ ∃ S', MxE r B P ph ws now w' S' ∧ Did S S' w w' := by
  rintro w S ⟨N, hN, ho, h⟩
  have hR : LeftR B P ph N ws now (B - sw ((now - ph) / P) ws) 0 now := Or.inr (Or.inr ⟨hnow, hN, rfl, rfl, rfl⟩)
  refine (mx_left ho h0 hR w S h).mono ?_
  rintro e w' ⟨he, S', hm, hd⟩
  exact ⟨he, S', ⟨now, Int.le_refl _, hR.xok ho, hm⟩, hd⟩
theorem mxe_take {r : Nat} {B P ph now : Int} {ws : List (Int × Int)} (h0 : 0 ≤ now) (hnow : now < 4611686018427387904) (hlen : ws.length ≤ 200) (hl : 0 < B - sw ((now - ph) / P) ws) : ∀ w S, MxE r B P ph ws now w S →
    Calls Try.prog 34 #[.pointer (some ⟨r, 0, none⟩), .int .u64 now, .int .u64 1] w fun e w' => e = .returned (.tuple #[.int .u64 1, .int .i64 0]) ∧ ∃ S', MxE r B P ph (ws ++ [((now - ph) / P, 1)]) now w' S' ∧ Did S S' w w' := by
  rintro w S ⟨N, hN, ho, h⟩
  have hR : TakeR B P ph N ws now 1 1 0 now (ws ++ [((now - ph) / P, 1)]) := ⟨_, Or.inr (Or.inr ⟨hnow, hN, rfl, rfl, rfl⟩), Or.inr ⟨rfl, by unfold mn; split <;> omega, rfl⟩⟩
  refine (mx_take ho h0 (by omega) hlen hR w S h).mono ?_
  rintro e w' ⟨he, S', hm, hd⟩
  exact ⟨he, S', ⟨now, Int.le_refl _, hR.xok (by omega) ho, hm⟩, hd⟩
/-- Whose meters are which. -/
def mcs (rp : Nat → Nat) (n : Nat) : List Value := (List.range n).map fun i => .pointer (some ⟨rp i, 0, none⟩)
abbrev RL0 (C : BC) (A : Option Addr) (cap r sb : Nat) (rp : Nat → Nat) (Am : Option Addr) (cm : Nat) (Ah : Option Addr) (ch : Nat) (M : Int) (hr : List (Int × Int)) (s : BS) : List Res :=
  [BlkR r 48 #[.slice A C.n cap, .int .u64 C.ph, .slice Am C.n cm, .slice (some ⟨sb, 0, none⟩) C.n C.n, .slice Ah hr.length ch], LisR 71 1 (.slice Am C.n cm) C.n (mcs rp C.n),
    ArrR sb 3 C.n (fun i => .int .i64 (s.st i)), LisR 84 2 (.slice Ah hr.length ch) hr.length (hc hr)] ++ (List.range C.n).map (fun i => MxE (rp i) (C.B i) (C.P i) C.ph (s.ws i) M)
/-- The same among other things: boxes in front, others behind. -/
abbrev RL (Bx N : List Res) (C : BC) (A : Option Addr) (cap r sb : Nat) (rp : Nat → Nat) (Am : Option Addr) (cm : Nat) (Ah : Option Addr) (ch : Nat) (M : Int) (hr : List (Int × Int)) (s : BS) : List Res :=
  (Bx ++ [BlkR r 48 #[.slice A C.n cap, .int .u64 C.ph, .slice Am C.n cm, .slice (some ⟨sb, 0, none⟩) C.n C.n, .slice Ah hr.length ch], LisR 71 1 (.slice Am C.n cm) C.n (mcs rp C.n),
    ArrR sb 3 C.n (fun i => .int .i64 (s.st i)), LisR 84 2 (.slice Ah hr.length ch) hr.length (hc hr)]) ++ (List.range C.n).map (fun i => MxE (rp i) (C.B i) (C.P i) C.ph (s.ws i) M) ++ N
def RBusR (C : BC) (A : Option Addr) (cap r sb : Nat) (rp : Nat → Nat) (q : Nat) (s : BS) : Res := fun w S => ∃ hr Am cm Ah ch, HOK C.ph s hr ∧ hr.length ≤ q ∧ Star (RL0 C A cap r sb rp Am cm Ah ch s.next hr s) w S
theorem RBusR.ok (C : BC) (A : Option Addr) (cap r sb : Nat) (rp : Nat → Nat) (q : Nat) (s : BS) : Ok (RBusR C A cap r sb rp q s) :=
  ⟨fun ⟨_, _, _, _, _, _, _, h⟩ => (Star.ok _).lt h, fun ⟨hr, Am, cm, Ah, ch, h1, h2, h⟩ hk => ⟨hr, Am, cm, Ah, ch, h1, h2, (Star.ok _).frame h hk⟩⟩
theorem fam_at2 {n i : Nat} (A N : List Res) (R : Nat → Res) (hi : i < n) : (A ++ (List.range n).map R ++ N)[A.length + i]? = some (R i) := by
  rw [List.getElem?_append_left (by simp; omega)]; exact fam_at A R hi
theorem fam_set2 {n i : Nat} (A N : List Res) (R : Nat → Res) (R' : Res) (hi : i < n) : (A ++ (List.range n).map R ++ N).set (A.length + i) R' = A ++ (List.range n).map (fun j => if j = i then R' else R j) ++ N := by
  rw [List.set_append_left _ _ (by simp; omega), fam_set A R R' hi]
/-- The last one is things side by side, whichever. -/
theorem St.unfoldE {α : Type} {w0 w : World} {S0 : Nat → Prop} {A : List Res} {R : Res} {B : α → List Res} {Q : α → Prop} (h : St w0 S0 w (A ++ [R])) (hr : ∀ S, R w S → ∃ x, Q x ∧ Star (B x) w S) : ∃ x, Q x ∧ St w0 S0 w (A ++ B x) := by
  obtain ⟨S, ⟨F, f1, f2, f3, f4⟩, hd⟩ := h
  obtain ⟨x, hq, hB⟩ := hr _ (f1 A.length R (by simp)).2
  have hA : Star A w (fun b => ∃ i, i < A.length ∧ F i b) := ⟨fun i b => i < A.length ∧ F i b, fun i R hR => by
      have hi : i < A.length := by
        rcases Nat.lt_or_ge i A.length with h | h
        · exact h
        · rw [List.getElem?_eq_none h] at hR; cases hR
      have e : (fun b => i < A.length ∧ F i b) = F i := funext fun b => propext ⟨fun h => h.2, fun h => ⟨hi, h⟩⟩
      dsimp only; rw [e]; exact f1 i R (by rw [List.getElem?_append_left hi]; exact hR), fun i j b hi hj => f2 i j b hi.2 hj.2, fun i b hi => hi.1, fun b => Iff.rfl⟩
  have hj := Star.append hA hB (fun b ⟨i, hi, h1⟩ h2 => by have := f2 i _ b h1 h2; omega)
  have e : (fun b => (∃ i, i < A.length ∧ F i b) ∨ F A.length b) = S := funext fun b => propext ⟨fun h => (f4 b).2 (h.elim (fun ⟨i, _, h⟩ => ⟨i, h⟩) fun h => ⟨_, h⟩), fun h => by
    obtain ⟨i, hi⟩ := (f4 b).1 h
    have hl := f3 i b hi
    simp at hl
    rcases Nat.lt_or_ge i A.length with hl' | hl'
    · exact Or.inl ⟨i, hl', hi⟩
    · obtain rfl : i = A.length := by omega
      exact Or.inr hi⟩
  rw [e] at hj
  exact ⟨x, hq, S, hj, hd⟩
section
variable {w0 w w' : World} {S0 : Nat → Prop} {Bx N : List Res} {C : BC} {A : Option Addr} {cap r sb : Nat} {rp : Nat → Nat} {Am : Option Addr} {cm : Nat} {Ah : Option Addr} {ch : Nat} {M now : Int} {hr : List (Int × Int)} {s : BS}
theorem rb_open {q : Nat} (H : St w0 S0 w (RBusR C A cap r sb rp q s :: N)) : ∃ hr Am cm Ah ch, HOK C.ph s hr ∧ hr.length ≤ q ∧ St w0 S0 w (RL [] N C A cap r sb rp Am cm Ah ch s.next hr s) := by
  have h : St w0 S0 w (N ++ [RBusR C A cap r sb rp q s]) := St.comm (A := [RBusR C A cap r sb rp q s]) H
  obtain ⟨x, hq, h2⟩ := h.unfoldE (α := List (Int × Int) × Option Addr × Nat × Option Addr × Nat) (Q := fun x => HOK C.ph s x.1 ∧ x.1.length ≤ q) (B := fun x => RL0 C A cap r sb rp x.2.1 x.2.2.1 x.2.2.2.1 x.2.2.2.2 s.next x.1 s) (fun S ⟨hr, Am, cm, Ah, ch, h1, h2, h3⟩ => ⟨(hr, Am, cm, Ah, ch), ⟨h1, h2⟩, h3⟩)
  exact ⟨x.1, x.2.1, x.2.2.1, x.2.2.2.1, x.2.2.2.2, hq.1, hq.2, h2.comm⟩
theorem rb_close {q : Nat} (H : St w0 S0 w (RL [] N C A cap r sb rp Am cm Ah ch M hr s)) (hM : M ≤ s.next) (h1 : HOK C.ph s hr) (h2 : hr.length ≤ q) : St w0 S0 w (RBusR C A cap r sb rp q s :: N) := by
  have h : St w0 S0 w (N ++ RL0 C A cap r sb rp Am cm Ah ch M hr s) := St.comm (A := RL0 C A cap r sb rp Am cm Ah ch M hr s) H
  have h3 := h.fold (RBusR.ok C A cap r sb rp q s) (fun S hs => ⟨hr, Am, cm, Ah, ch, h1, h2, Star.weakF hs fun i hi => ⟨MxE.ok _ _ _ _ _ _, fun T hT => hT.later hM⟩⟩)
  exact h3.comm
theorem rb_later {M' : Int} (H : St w0 S0 w (RL [] N C A cap r sb rp Am cm Ah ch M hr s)) (h : M ≤ M') : St w0 S0 w (RL [] N C A cap r sb rp Am cm Ah ch M' hr s) := by
  have h1 : St w0 S0 w (N ++ RL0 C A cap r sb rp Am cm Ah ch M hr s) := St.comm (A := RL0 C A cap r sb rp Am cm Ah ch M hr s) H
  obtain ⟨S, hs, hd⟩ := h1
  have h2 : St w0 S0 w (N ++ RL0 C A cap r sb rp Am cm Ah ch M' hr s) := ⟨S, by
    have h3 : Star ((N ++ [BlkR r 48 #[.slice A C.n cap, .int .u64 C.ph, .slice Am C.n cm, .slice (some ⟨sb, 0, none⟩) C.n C.n, .slice Ah hr.length ch], LisR 71 1 (.slice Am C.n cm) C.n (mcs rp C.n),
      ArrR sb 3 C.n (fun i => .int .i64 (s.st i)), LisR 84 2 (.slice Ah hr.length ch) hr.length (hc hr)]) ++ (List.range C.n).map (fun i => MxE (rp i) (C.B i) (C.P i) C.ph (s.ws i) M)) w S := by rw [List.append_assoc]; exact hs
    have h4 := Star.weakF h3 (R' := fun i => MxE (rp i) (C.B i) (C.P i) C.ph (s.ws i) M') fun i hi => ⟨MxE.ok _ _ _ _ _ _, fun T hT => hT.later h⟩
    rw [List.append_assoc] at h4; exact h4, hd⟩
  exact h2.comm
theorem rb_left (H : St w0 S0 w (RL Bx N C A cap r sb rp Am cm Ah ch now hr s)) {i : Nat} (hi : i < C.n) (h0 : 0 ≤ now) (hnow : now < 4611686018427387904) :
    Calls Try.prog 32 #[.pointer (some ⟨rp i, 0, none⟩), .int .u64 now] w fun e w' => e = .returned (.tuple #[.int .u64 (C.left s.ws i now), .int .i64 0]) ∧ St w0 S0 w' (RL Bx N C A cap r sb rp Am cm Ah ch now hr s) := by
  refine (St.call (mxe_left h0 hnow) (MxE.ok _ _ _ _ _ _) H _ (fam_at2 _ _ _ hi)).mono ?_
  rintro e w' ⟨he, hs⟩
  refine ⟨he, ?_⟩
  rw [fam_set2 _ _ _ _ hi] at hs
  rw [fam_like (R' := fun i => MxE (rp i) (C.B i) (C.P i) C.ph (s.ws i) now) (fun j hj => by split; (rename_i e; rw [e]); rfl)] at hs
  exact hs
theorem rb_take (H : St w0 S0 w (RL Bx N C A cap r sb rp Am cm Ah ch now hr s)) {i : Nat} (hi : i < C.n) (h0 : 0 ≤ now) (hnow : now < 4611686018427387904) (hlen : (s.ws i).length ≤ 200) (hl : 0 < C.left s.ws i now) :
    Calls Try.prog 34 #[.pointer (some ⟨rp i, 0, none⟩), .int .u64 now, .int .u64 1] w fun e w' => e = .returned (.tuple #[.int .u64 1, .int .i64 0]) ∧
      St w0 S0 w' (RL Bx N C A cap r sb rp Am cm Ah ch now hr { s with ws := upd s.ws i (s.ws i ++ [(C.K i now, 1)]) }) := by
  refine (St.call (mxe_take h0 hnow hlen hl) (MxE.ok _ _ _ _ _ _) H _ (fam_at2 _ _ _ hi)).mono ?_
  rintro e w' ⟨he, hs⟩
  refine ⟨he, ?_⟩
  rw [fam_set2 _ _ _ _ hi] at hs
  rw [fam_like (R' := fun j => MxE (rp j) (C.B j) (C.P j) C.ph (upd s.ws i (s.ws i ++ [(C.K i now, 1)]) j) now) (fun j hj => by unfold upd; split; (rename_i e; subst e; rfl); rfl)] at hs
  exact hs
theorem mcs_at {n i : Nat} (hi : i < n) : (mcs rp n)[i]? = some (.pointer (some ⟨rp i, 0, none⟩)) := by simp [mcs, hi]
/-- A run, counted. -/
theorem rrow (id u : Int) (w : World) (c4 : w.cell? ⟨r, 4, none⟩ = some (.slice Ah hr.length ch)) (hl : Lis w 84 2 (.slice Ah hr.length ch) hr.length (hc hr)) (hlen : hr.length ≤ 200) (hb : ∀ p ∈ hr, 0 ≤ p.1 ∧ p.1 < 4611686018427387904) (hu : 0 ≤ u ∧ u ≤ 4611686018427387904) :
    Calls Try.prog 33 #[.pointer (some ⟨r, 0, none⟩), .int .i64 id, .int .u64 u] w fun e w' => e = .returned (.int .i64 (run id u hr)) ∧ w = w' := by
  have HR := Lib.hid hl.reads.2
  have HB := Lib.hid hb
  obtain ⟨m, hm⟩ : ∃ m, hr.length = m := ⟨_, rfl⟩
  rw [hm] at c4 hlen HR
  have HM := Lib.hid hm
  clear hl hb hm
  go_enter Try.func33, Try.ntmps33
  go_wp2_with fail
  go_loopw [7, 8] (fun n i wr => ∃ d : Nat, d ≤ m ∧ n = .int .i64 d ∧ i = .int .i64 ((m : Int) - 1 - d) ∧ run id u hr = d + run id (u - d) (hr.drop d) ∧ wr = w) (fun n _ _ => m + 1 - (intOf n).toNat)
  case atStart => exact ⟨0, by omega, rfl, by simp, by simp, rfl⟩
  case round =>
    obtain ⟨d, hd, rfl, rfl, hrun, rfl⟩ := hrel
    have HRUN := Lib.hid hrun
    clear hrun
    by_cases hlt : d < m
    · obtain ⟨p, hp⟩ : ∃ p, hr[d]? = some p := ⟨_, List.getElem?_eq_getElem (by rw [HM.out]; exact hlt)⟩
      obtain ⟨g, off, rfl, hcc⟩ := HR.out.resolve_left (by omega)
      have hat := hc_at hp
      rw [HM.out] at hat
      have x0 := hcc _ _ hat.1
      have x1 := hcc _ _ hat.2
      rw [← Nat.add_assoc] at x1
      have hpb := HB.out p (List.mem_of_getElem? hp)
      have hdr : hr.drop d = p :: hr.drop (d + 1) := by
        obtain ⟨h1, h2⟩ := List.getElem?_eq_some_iff.1 hp
        rw [← h2]; exact List.drop_eq_getElem_cons h1
      have hstep : run id (u - d) (hr.drop d) = if p.2 = id ∧ p.1 + 1 = u - d then 1 + run id (u - d - 1) (hr.drop (d + 1)) else 0 := by rw [hdr, run]
      have HSTEP := Lib.hid hstep
      obtain ⟨i, hi⟩ : ∃ i : Nat, m - 1 - d = i := ⟨_, rfl⟩
      rw [hi] at x0 x1
      have hi2 : (m : Int) - 1 - d = i := by omega
      have i0 : (0 : Int) ≤ (i : Int) := by omega
      have i1 : (i : Int) < (m : Int) := by omega
      obtain ⟨p1, p2⟩ := p
      dsimp only at x0 x1 hpb HSTEP
      clear hat hcc hdr hstep hp hi
      have d0 : decide (0 ≤ (i : Int)) = true := decide_eq_true i0
      rw [hi2]
      have HI2 := Lib.hid hi2
      clear hi2
      by_cases e1 : p2 = id
      · have q1 : (p2 != id) = false := by simp [bne, e1]
        by_cases e2 : p1 + 1 + d = u
        · have q2 : (p1 + 1 + (d : Int) != u) = false := by simp [bne, e2]
          have HE := Lib.hid (show run id u hr = ((d + 1 : Nat)) + run id (u - (d + 1 : Nat)) (hr.drop (d + 1)) by
            rw [HRUN.out, HSTEP.out, if_pos ⟨e1, by omega⟩, show u - ((d + 1 : Nat) : Int) = u - d - 1 by omega]; omega)
          clear e1 e2
          go_wp2
          go_roundw
          case rel => exact ⟨d + 1, by omega, by go_num, by rw [← HI2.out]; congr 1; omega, HE.out, trivial⟩
          case measure => simp [intOf]; omega
        · have q2 : (p1 + 1 + (d : Int) != u) = true := by simp [bne, e2]
          have HE := Lib.hid (show run id u hr = d by rw [HRUN.out, HSTEP.out, if_neg (fun h => e2 (by omega))]; omega)
          clear e1 e2
          go_wp2
          go_ret
          exact ⟨by rw [HE.out]; rfl, rfl⟩
      · have q1 : (p2 != id) = true := by simp [bne, e1]
        have HE := Lib.hid (show run id u hr = d by rw [HRUN.out, HSTEP.out, if_neg (fun h => e1 h.1)]; omega)
        clear e1
        go_wp2
        go_ret
        exact ⟨by rw [HE.out]; rfl, rfl⟩
    · obtain rfl : d = m := by omega
      have HE := Lib.hid (show run id u hr = d by
        rw [HRUN.out, List.drop_eq_nil_of_le (by rw [HM.out]; omega)]; simp [run])
      have d0 : decide (0 ≤ (d : Int) - 1 - d) = false := decide_eq_false (by omega)
      go_wp2
      go_ret
      exact ⟨by rw [HE.out]; rfl, rfl⟩
end
end Go.Proofs.Ytabocojmobbpaaa
