/- BsB: BusW BusR BusX in a namespace of their own. Printed by bin/nsgen.py. -/
import Derived.Test.YtdjhpdacglojaaaGreatBsA
namespace Go.Proofs.YtdjhpdacglojaaaGreat
open Go.RowKit
namespace bs
section
set_option linter.unusedVariables false
theorem Tryz.infoI : (Tryz.prog.info? 3).map (fun i => (i.zero, i.size, i.bytes)) = some (some (.int .i64 0), 1, 8) := by kernel_rfl
/-- Is the bit set? -/
def bitB (y : Int) (j : Nat) : Bool := (bits BinOp.and IntKind.u16 (y / 2 ^ j) 1 == 1)
/-- The numbers below k that are meant. -/
def il (m : Nat → Bool) : Nat → List Nat
  | 0 => []
  | k + 1 => if m k = true then il m k ++ [k] else il m k
theorem il_yes {m : Nat → Bool} {k : Nat} (h : m k = true) : il m (k + 1) = il m k ++ [k] := by rw [il, if_pos h]
theorem il_no {m : Nat → Bool} {k : Nat} (h : m k = false) : il m (k + 1) = il m k := by rw [il, if_neg (by rw [h]; simp)]
theorem mem_il {m : Nat → Bool} {i : Nat} : ∀ {k : Nat}, i ∈ il m k ↔ i < k ∧ m i = true
  | 0 => by simp [il]
  | k + 1 => by
    cases h : m k
    · rw [il_no h, mem_il]; constructor
      · rintro ⟨a, b⟩; exact ⟨by omega, b⟩
      · rintro ⟨a, b⟩
        have : i ≠ k := fun e => by subst e; rw [h] at b; cases b
        exact ⟨by omega, b⟩
    · rw [il_yes h, List.mem_append, mem_il]; constructor
      · rintro (⟨a, b⟩ | a)
        · exact ⟨by omega, b⟩
        · simp at a; subst a; exact ⟨by omega, h⟩
      · rintro ⟨a, b⟩
        by_cases e : i = k
        · right; simp [e]
        · left; exact ⟨by omega, b⟩
theorem il_nodup (m : Nat → Bool) : ∀ k, (il m k).Nodup
  | 0 => by simp [il]
  | k + 1 => by
    cases h : m k
    · rw [il_no h]; exact il_nodup m k
    · rw [il_yes h, List.nodup_append]
      exact ⟨il_nodup m k, by simp, fun a ha b hb => by
        have := (mem_il.1 ha).1; simp at hb; omega⟩
theorem il_len (m : Nat → Bool) : ∀ k, (il m k).length ≤ k
  | 0 => by simp [il]
  | k + 1 => by
    have := il_len m k
    cases h : m k
    · rw [il_no h]; omega
    · rw [il_yes h]; simp; omega
theorem il_at {m : Nat → Bool} {n c i : Nat} (h : (il m n)[c]? = some i) : i < n ∧ m i = true := mem_il.1 (List.mem_of_getElem? h)
theorem il_inj {m : Nat → Bool} {n c d i : Nat} (h : (il m n)[c]? = some i) (h2 : (il m n)[d]? = some i) : c = d := by
  obtain ⟨h3, h4⟩ := List.getElem?_eq_some_iff.1 h
  obtain ⟨h5, h6⟩ := List.getElem?_eq_some_iff.1 h2
  exact (List.getElem_inj (il_nodup m n)).1 (h4.trans h6.symm)
theorem il_of {m : Nat → Bool} {n i : Nat} (h1 : i < n) (h2 : m i = true) : ∃ c : Nat, (il m n)[c]? = some i := by
  obtain ⟨c, hc, h⟩ := List.mem_iff_getElem.1 (mem_il.2 ⟨h1, h2⟩)
  exact ⟨c, by rw [List.getElem?_eq_getElem hc, h]⟩
/-- As cells, each once. -/
def sv (l : List Nat) : List Value := l.map fun (i : Nat) => Value.int .i64 (i : Int)
theorem sv_app (l : List Nat) (i : Nat) : sv (l ++ [i]) = sv l ++ [.int .i64 (i : Int)] := by simp [sv]
theorem sv_at {l : List Nat} {c i : Nat} (h : l[c]? = some i) : (sv l)[c]? = some (.int .i64 (i : Int)) := by simp [sv, h]
/-- As cells, each twice. -/
def dv : List Nat → List Value
  | [] => []
  | i :: l => .int .i64 (i : Int) :: .int .i64 (i : Int) :: dv l
theorem dv_app (l : List Nat) (i : Nat) : dv (l ++ [i]) = dv l ++ [.int .i64 (i : Int), .int .i64 (i : Int)] := by
  induction l with
  | nil => rfl
  | cons a l ih => simp [dv, ih]
theorem dv_len (l : List Nat) : (dv l).length = 2 * l.length := by
  induction l with
  | nil => rfl
  | cons a l ih => simp [dv, ih]; omega
theorem dv_at : ∀ {l : List Nat} {j i : Nat}, l[j / 2]? = some i → (dv l)[j]? = some (.int .i64 (i : Int))
  | [], j, i, h => by simp at h
  | a :: l, 0, i, h => by simp at h; subst h; rfl
  | a :: l, 1, i, h => by simp at h; subst h; rfl
  | a :: l, j + 2, i, h => by
    have e : (j + 2) / 2 = j / 2 + 1 := by omega
    rw [e] at h
    have := dv_at (l := l) (j := j) (i := i) (by simpa using h)
    simpa [dv] using this
theorem want_of {l : List Nat} {nw : Nat} {f : Nat → Int} {n : Nat} {m : Nat → Bool} (hl : l = il m n) (h1 : ∀ j, j < nw → ∃ c i : Nat, l[c]? = some i ∧ f j = i) (h2 : ∀ c i : Nat, l[c]? = some i → ∃ j, j < nw ∧ f j = i) {i : Nat} (hi : i < n) : wantB nw f i = m i := by
  subst hl
  unfold wantB
  cases hm : m i with
  | true =>
    obtain ⟨c, hc⟩ := il_of hi hm
    obtain ⟨j, hj, hf⟩ := h2 c i hc
    exact decide_eq_true ⟨j, hj, hf⟩
  | false =>
    refine decide_eq_false ?_
    rintro ⟨j, hj, hf⟩
    obtain ⟨c, i', hc, hf'⟩ := h1 j hj
    have : i' = i := by omega
    subst this
    have := (il_at hc).2
    rw [hm] at this; cases this
theorem okB_of {l : List Nat} {nw : Nat} {f : Nat → Int} {n : Nat} {m : Nat → Bool} (hl : l = il m n) (h1 : ∀ j, j < nw → ∃ c i : Nat, l[c]? = some i ∧ f j = i) : okB nw f n = true :=
  decide_eq_true fun j hj => by
    obtain ⟨c, i, hc, hf⟩ := h1 j hj
    subst hl
    have := (il_at hc).1
    omega
/-- Each of them twice. -/
def fd (l : List Nat) (j : Nat) : Int := (l.getD (j / 2) 0 : Nat)
def fs (l : List Nat) (j : Nat) : Int := (l.getD j 0 : Nat)
theorem fd_ok (l : List Nat) : (∀ j, j < 2 * l.length → ∃ c i : Nat, l[c]? = some i ∧ fd l j = i) ∧ (∀ c i : Nat, l[c]? = some i → ∃ j, j < 2 * l.length ∧ fd l j = i) := by
  constructor
  · intro j hj
    have h : j / 2 < l.length := by omega
    exact ⟨j / 2, l[j / 2], List.getElem?_eq_getElem h, by simp [fd, List.getD, List.getElem?_eq_getElem h]⟩
  · intro c i h
    obtain ⟨hc, _⟩ := List.getElem?_eq_some_iff.1 h
    exact ⟨2 * c, by omega, by simp [fd, List.getD, h]⟩
theorem fs_ok (l : List Nat) : (∀ j, j < l.length → ∃ c i : Nat, l[c]? = some i ∧ fs l j = i) ∧ (∀ c i : Nat, l[c]? = some i → ∃ j, j < l.length ∧ fs l j = i) := by
  constructor
  · intro j h
    exact ⟨j, l[j], List.getElem?_eq_getElem h, by simp [fs, List.getD, List.getElem?_eq_getElem h]⟩
  · intro c i h
    obtain ⟨hc, _⟩ := List.getElem?_eq_some_iff.1 h
    exact ⟨c, hc, by simp [fs, List.getD, h]⟩
theorem rd_dv {w : World} {A : Option Addr} {cap : Nat} {l : List Nat} (h : Lis w 3 1 (.slice A (2 * l.length) cap) (2 * l.length) (dv l)) : Rd w A (2 * l.length) (fun j => .int .i64 (fd l j)) :=
  lis_rd h fun j hj => by
    have h : j / 2 < l.length := by omega
    have := dv_at (List.getElem?_eq_getElem h)
    rw [this]; simp [fd, List.getD, List.getElem?_eq_getElem h]
theorem rd_sv {w : World} {A : Option Addr} {cap : Nat} {l : List Nat} (h : Lis w 3 1 (.slice A l.length cap) l.length (sv l)) : Rd w A l.length (fun j => .int .i64 (fs l j)) :=
  lis_rd h fun j hj => by
    have := sv_at (List.getElem?_eq_getElem hj)
    rw [this]; simp [fs, List.getD, List.getElem?_eq_getElem hj]
end
section
set_option linter.unusedVariables false
set_option maxRecDepth 100000
set_option maxHeartbeats 400000
/-- How many slots in a row, up to u, one has had; the newest first. -/
def run (id : Int) : Int → List (Int × Int) → Nat
  | _, [] => 0
  | u, p :: t => if p.2 = id ∧ p.1 + 1 = u then 1 + run id (u - 1) t else 0
/-- All slots as cells, the oldest first. -/
def hc : List (Int × Int) → List Value
  | [] => []
  | p :: t => hc t ++ [.int .u64 p.1, .int .i64 p.2]
theorem hc_len : ∀ l : List (Int × Int), (hc l).length = l.length * 2
  | [] => rfl
  | p :: t => by simp [hc, hc_len t]; omega
theorem hc_at : ∀ {l : List (Int × Int)} {d : Nat} {p : Int × Int}, l[d]? = some p → (hc l)[(l.length - 1 - d) * 2]? = some (.int .u64 p.1) ∧ (hc l)[(l.length - 1 - d) * 2 + 1]? = some (.int .i64 p.2)
  | [], d, p, h => by simp at h
  | q :: t, 0, p, h => by
    simp at h; subst h
    have e : (q :: t).length - 1 - 0 = t.length := by simp
    rw [e]
    unfold hc
    exact ⟨by rw [List.getElem?_append_right (by rw [hc_len]; omega), hc_len]; simp, by rw [List.getElem?_append_right (by rw [hc_len]; omega), hc_len]; simp [show t.length * 2 + 1 - t.length * 2 = 1 by omega]⟩
  | q :: t, d + 1, p, h => by
    have h' : t[d]? = some p := by simpa using h
    have hd := (List.getElem?_eq_some_iff.1 h').1
    have e : (q :: t).length - 1 - (d + 1) = t.length - 1 - d := by simp; omega
    obtain ⟨a, b⟩ := hc_at h'
    rw [e]
    unfold hc
    exact ⟨by rw [List.getElem?_append_left (by rw [hc_len]; omega)]; exact a, by rw [List.getElem?_append_left (by rw [hc_len]; omega)]; exact b⟩
/-- What the slots that were tell of the last one. -/
structure HOK (ph : Int) (s : BS) (hr : List (Int × Int)) : Prop where
  emp : hr = [] → s.next = ph ∧ s.who = -1
  top : ∀ p t, hr = p :: t → p.1 + 1 = s.next ∧ p.2 = s.who
  row : ∀ id : Nat, s.who = id → s.row = run id s.next hr
  nob : s.who = -1 → s.row = 0
  bd : ∀ p ∈ hr, 0 ≤ p.1 ∧ p.1 < 4611686018427387904
theorem run_now {ph : Int} {s : BS} {hr : List (Int × Int)} {now : Int} (h : HOK ph s hr) (hx : s.next ≤ now) (id : Nat) : (run id now hr : Int) = if s.who1 now = id then s.row1 now else 0 := by
  unfold BS.who1 BS.row1
  by_cases hlt : s.next < now
  · rw [if_pos hlt, if_pos hlt, if_neg (by omega)]
    cases hr with
    | nil => rfl
    | cons p t =>
      have := h.top p t rfl
      unfold run
      rw [if_neg (by omega)]; rfl
  · rw [if_neg hlt, if_neg hlt]
    obtain rfl : now = s.next := by omega
    by_cases e : s.who = id
    · rw [if_pos e, h.row id e]
    · rw [if_neg e]
      cases hr with
      | nil => rfl
      | cons p t =>
        have := h.top p t rfl
        unfold run
        rw [if_neg (by omega)]; rfl
theorem hok_begin (ph : Int) : HOK ph (bs0 ph) [] := ⟨fun _ => ⟨rfl, rfl⟩, (fun p t h => by cases h), (fun id h => by have h2 : (-1 : Int) = id := h; omega), fun _ => rfl, (fun p hp => by simp at hp)⟩
theorem hok_next {C : BC} {s s' : BS} {hr : List (Int × Int)} {now v f : Int} {ok : Bool} {want : Nat → Bool} (h : HOK C.ph s hr) (h0 : 0 ≤ now) (hR : SlotR C s now ok want v f s') : ∃ hr', HOK C.ph s' hr' ∧ hr'.length ≤ hr.length + 1 ∧ (f ≠ 2 ∧ f ≠ 1 → hr' = (now, s'.who) :: hr) ∧ (f = 2 ∨ f = 1 → hr' = hr) := by
  rcases hR with ⟨_, _, rfl, rfl⟩ | ⟨_, _, _, rfl, rfl⟩ | ⟨h1, h2, h3, h4, _, rfl, rfl⟩ | ⟨h1, h2, h3, b, hb, h4, _, rfl, rfl⟩
  · exact ⟨hr, h, by omega, fun h => by omega, fun _ => rfl⟩
  · exact ⟨hr, h, by omega, fun h => by omega, fun _ => rfl⟩
  · refine ⟨(now, -1) :: hr, ⟨(fun h => by cases h), fun p t e => ?_, fun id h => ?_, fun _ => rfl, fun p hp => ?_⟩, by simp, fun _ => rfl, fun h => by omega⟩
    · injection e with e1 e2; subst e1; exact ⟨rfl, rfl⟩
    · have : (-1 : Int) = id := h
      omega
    · rcases List.mem_cons.1 hp with e | e
      · subst e; exact ⟨h0, h1⟩
      · exact h.bd p e
  · refine ⟨(now, (b : Int)) :: hr, ⟨(fun h => by cases h), fun p t e => ?_, fun id hid => ?_, fun hn => ?_, fun p hp => ?_⟩, by simp, fun _ => rfl, fun h => by omega⟩
    · injection e with e1 e2; subst e1; exact ⟨rfl, rfl⟩
    · have e : (b : Int) = id := hid
      obtain rfl : b = id := by omega
      show (if s.who1 now = (b : Int) then s.row1 now else 0) + 1 = ((run b (now + 1) ((now, (b : Int)) :: hr) : Nat) : Int)
      have := run_now h h3 b
      have e3 : run b (now + 1) ((now, (b : Int)) :: hr) = 1 + run b now hr := by
        rw [run, if_pos ⟨rfl, rfl⟩, show now + 1 - 1 = now by omega]
      rw [e3]; omega
    · have : (b : Int) = -1 := hn
      omega
    · rcases List.mem_cons.1 hp with e | e
      · subst e; exact ⟨h0, h1⟩
      · exact h.bd p e
/-- The document's meter, asked at M at the latest. -/
def MxE (r : Nat) (B P ph : Int) (ws : List (Int × Int)) (M : Int) : Res := fun w S => ∃ N, N ≤ M ∧ XOK B P ph N ws ∧ MxR r B P ph N ws w S
theorem MxE.ok (r : Nat) (B P ph : Int) (ws : List (Int × Int)) (M : Int) : Ok (MxE r B P ph ws M) :=
  ⟨fun ⟨N, _, _, h⟩ => (MxR.ok _ _ _ _ _ _).lt h, fun ⟨N, h1, h2, h⟩ hk => ⟨N, h1, h2, (MxR.ok _ _ _ _ _ _).frame h hk⟩⟩
theorem MxE.later {r : Nat} {B P ph : Int} {ws : List (Int × Int)} {M M' : Int} {w : World} {S : Nat → Prop} (h : M ≤ M') (hm : MxE r B P ph ws M w S) : MxE r B P ph ws M' w S := by
  obtain ⟨N, h1, h2⟩ := hm; exact ⟨N, Int.le_trans h1 h, h2⟩
theorem mxe_left {r : Nat} {B P ph now : Int} {ws : List (Int × Int)} (h0 : 0 ≤ now) (hnow : now < 4611686018427387904) : ∀ w S, MxE r B P ph ws now w S →
    Calls Tryz.prog 129 #[.pointer (some ⟨r, 0, none⟩), .int .u64 now] w fun e w' => e = .returned (.tuple #[.int .u64 (B - sw ((now - ph) / P) ws), .int .i64 0]) ∧ ∃ S', MxE r B P ph ws now w' S' ∧ Did S S' w w' := by
  rintro w S ⟨N, hN, ho, h⟩
  have hR : LeftR B P ph N ws now (B - sw ((now - ph) / P) ws) 0 now := Or.inr (Or.inr ⟨hnow, hN, rfl, rfl, rfl⟩)
  refine (mx_left ho h0 hR w S h).mono ?_
  rintro e w' ⟨he, S', hm, hd⟩
  exact ⟨he, S', ⟨now, Int.le_refl _, hR.xok ho, hm⟩, hd⟩
theorem mxe_take {r : Nat} {B P ph now : Int} {ws : List (Int × Int)} (h0 : 0 ≤ now) (hnow : now < 4611686018427387904) (hlen : ws.length ≤ 200) (hl : 0 < B - sw ((now - ph) / P) ws) : ∀ w S, MxE r B P ph ws now w S →
    Calls Tryz.prog 131 #[.pointer (some ⟨r, 0, none⟩), .int .u64 now, .int .u64 1] w fun e w' => e = .returned (.tuple #[.int .u64 1, .int .i64 0]) ∧ ∃ S', MxE r B P ph (ws ++ [((now - ph) / P, 1)]) now w' S' ∧ Did S S' w w' := by
  rintro w S ⟨N, hN, ho, h⟩
  have hR : TakeR B P ph N ws now 1 1 0 now (ws ++ [((now - ph) / P, 1)]) := ⟨_, Or.inr (Or.inr ⟨hnow, hN, rfl, rfl, rfl⟩), Or.inr ⟨rfl, by unfold mn; split <;> omega, rfl⟩⟩
  refine (mx_take ho h0 (by omega) hlen hR w S h).mono ?_
  rintro e w' ⟨he, S', hm, hd⟩
  exact ⟨he, S', ⟨now, Int.le_refl _, hR.xok (by omega) ho, hm⟩, hd⟩
/-- Whose meters are which. -/
def mcs (rp : Nat → Nat) (n : Nat) : List Value := (List.range n).map fun i => .pointer (some ⟨rp i, 0, none⟩)
abbrev RL0 (C : BC) (A : Option Addr) (cap r sb : Nat) (rp : Nat → Nat) (Am : Option Addr) (cm : Nat) (Ah : Option Addr) (ch : Nat) (M : Int) (hr : List (Int × Int)) (s : BS) : List Res :=
  [BlkR r 203 #[.slice A C.n cap, .int .u64 C.ph, .slice Am C.n cm, .slice (some ⟨sb, 0, none⟩) C.n C.n, .slice Ah hr.length ch], LisR 204 1 (.slice Am C.n cm) C.n (mcs rp C.n),
    ArrR sb 3 C.n (fun i => .int .i64 (s.st i)), LisR 240 2 (.slice Ah hr.length ch) hr.length (hc hr)] ++ (List.range C.n).map (fun i => MxE (rp i) (C.B i) (C.P i) C.ph (s.ws i) M)
/-- The same among other things: boxes in front, others behind. -/
abbrev RL (Bx N : List Res) (C : BC) (A : Option Addr) (cap r sb : Nat) (rp : Nat → Nat) (Am : Option Addr) (cm : Nat) (Ah : Option Addr) (ch : Nat) (M : Int) (hr : List (Int × Int)) (s : BS) : List Res :=
  (Bx ++ [BlkR r 203 #[.slice A C.n cap, .int .u64 C.ph, .slice Am C.n cm, .slice (some ⟨sb, 0, none⟩) C.n C.n, .slice Ah hr.length ch], LisR 204 1 (.slice Am C.n cm) C.n (mcs rp C.n),
    ArrR sb 3 C.n (fun i => .int .i64 (s.st i)), LisR 240 2 (.slice Ah hr.length ch) hr.length (hc hr)]) ++ (List.range C.n).map (fun i => MxE (rp i) (C.B i) (C.P i) C.ph (s.ws i) M) ++ N
def RBusR (C : BC) (A : Option Addr) (cap r sb : Nat) (rp : Nat → Nat) (q : Nat) (s : BS) : Res := fun w S => ∃ hr Am cm Ah ch, HOK C.ph s hr ∧ hr.length ≤ q ∧ Star (RL0 C A cap r sb rp Am cm Ah ch s.next hr s) w S
theorem RBusR.ok (C : BC) (A : Option Addr) (cap r sb : Nat) (rp : Nat → Nat) (q : Nat) (s : BS) : Ok (RBusR C A cap r sb rp q s) :=
  ⟨fun ⟨_, _, _, _, _, _, _, h⟩ => (Star.ok _).lt h, fun ⟨hr, Am, cm, Ah, ch, h1, h2, h⟩ hk => ⟨hr, Am, cm, Ah, ch, h1, h2, (Star.ok _).frame h hk⟩⟩
theorem fam_at2 {n i : Nat} (A N : List Res) (R : Nat → Res) (hi : i < n) : (A ++ (List.range n).map R ++ N)[A.length + i]? = some (R i) := by
  rw [List.getElem?_append_left (by simp; omega)]; exact fam_at A R hi
theorem fam_set2 {n i : Nat} (A N : List Res) (R : Nat → Res) (R' : Res) (hi : i < n) : (A ++ (List.range n).map R ++ N).set (A.length + i) R' = A ++ (List.range n).map (fun j => if j = i then R' else R j) ++ N := by
  rw [List.set_append_left _ _ (by simp; omega), fam_set A R R' hi]
/-- The last one is things side by side, whichever. -/
theorem _root_.Go.Proofs.YtdjhpdacglojaaaGreat.St.unfoldE {α : Type} {w0 w : World} {S0 : Nat → Prop} {A : List Res} {R : Res} {B : α → List Res} {Q : α → Prop} (h : St w0 S0 w (A ++ [R])) (hr : ∀ S, R w S → ∃ x, Q x ∧ Star (B x) w S) : ∃ x, Q x ∧ St w0 S0 w (A ++ B x) := by
  obtain ⟨S, ⟨F, f1, f2, f3, f4⟩, hd⟩ := h
  obtain ⟨x, hq, hB⟩ := hr _ (f1 A.length R (by simp)).2
  have hA : Star A w (fun b => ∃ i, i < A.length ∧ F i b) := ⟨fun i b => i < A.length ∧ F i b, fun i R hR => by
      have hi : i < A.length := by
        rcases Nat.lt_or_ge i A.length with h | h
        · exact h
        · rw [List.getElem?_eq_none h] at hR; cases hR
      have e : (fun b => i < A.length ∧ F i b) = F i := funext fun b => propext ⟨fun h => h.2, fun h => ⟨hi, h⟩⟩
      dsimp only; rw [e]; exact f1 i R (by rw [List.getElem?_append_left hi]; exact hR), fun i j b hi hj => f2 i j b hi.2 hj.2, fun i b hi => hi.1, fun b => Iff.rfl⟩
  have hj := Star.append hA hB (fun b ⟨i, hi, h1⟩ h2 => by have := f2 i _ b h1 h2; omega)
  have e : (fun b => (∃ i, i < A.length ∧ F i b) ∨ F A.length b) = S := funext fun b => propext ⟨fun h => (f4 b).2 (h.elim (fun ⟨i, _, h⟩ => ⟨i, h⟩) fun h => ⟨_, h⟩), fun h => by
    obtain ⟨i, hi⟩ := (f4 b).1 h
    have hl := f3 i b hi
    simp at hl
    rcases Nat.lt_or_ge i A.length with hl' | hl'
    · exact Or.inl ⟨i, hl', hi⟩
    · obtain rfl : i = A.length := by omega
      exact Or.inr hi⟩
  rw [e] at hj
  exact ⟨x, hq, S, hj, hd⟩
section
variable {w0 w w' : World} {S0 : Nat → Prop} {Bx N : List Res} {C : BC} {A : Option Addr} {cap r sb : Nat} {rp : Nat → Nat} {Am : Option Addr} {cm : Nat} {Ah : Option Addr} {ch : Nat} {M now : Int} {hr : List (Int × Int)} {s : BS}
theorem rb_open {q : Nat} (H : St w0 S0 w (RBusR C A cap r sb rp q s :: N)) : ∃ hr Am cm Ah ch, HOK C.ph s hr ∧ hr.length ≤ q ∧ St w0 S0 w (RL [] N C A cap r sb rp Am cm Ah ch s.next hr s) := by
  have h : St w0 S0 w (N ++ [RBusR C A cap r sb rp q s]) := St.comm (A := [RBusR C A cap r sb rp q s]) H
  obtain ⟨x, hq, h2⟩ := h.unfoldE (α := List (Int × Int) × Option Addr × Nat × Option Addr × Nat) (Q := fun x => HOK C.ph s x.1 ∧ x.1.length ≤ q) (B := fun x => RL0 C A cap r sb rp x.2.1 x.2.2.1 x.2.2.2.1 x.2.2.2.2 s.next x.1 s) (fun S ⟨hr, Am, cm, Ah, ch, h1, h2, h3⟩ => ⟨(hr, Am, cm, Ah, ch), ⟨h1, h2⟩, h3⟩)
  exact ⟨x.1, x.2.1, x.2.2.1, x.2.2.2.1, x.2.2.2.2, hq.1, hq.2, h2.comm⟩
theorem rb_close {q : Nat} (H : St w0 S0 w (RL [] N C A cap r sb rp Am cm Ah ch M hr s)) (hM : M ≤ s.next) (h1 : HOK C.ph s hr) (h2 : hr.length ≤ q) : St w0 S0 w (RBusR C A cap r sb rp q s :: N) := by
  have h : St w0 S0 w (N ++ RL0 C A cap r sb rp Am cm Ah ch M hr s) := St.comm (A := RL0 C A cap r sb rp Am cm Ah ch M hr s) H
  have h3 := h.fold (RBusR.ok C A cap r sb rp q s) (fun S hs => ⟨hr, Am, cm, Ah, ch, h1, h2, Star.weakF hs fun i hi => ⟨MxE.ok _ _ _ _ _ _, fun T hT => hT.later hM⟩⟩)
  exact h3.comm
theorem rb_later {M' : Int} (H : St w0 S0 w (RL [] N C A cap r sb rp Am cm Ah ch M hr s)) (h : M ≤ M') : St w0 S0 w (RL [] N C A cap r sb rp Am cm Ah ch M' hr s) := by
  have h1 : St w0 S0 w (N ++ RL0 C A cap r sb rp Am cm Ah ch M hr s) := St.comm (A := RL0 C A cap r sb rp Am cm Ah ch M hr s) H
  obtain ⟨S, hs, hd⟩ := h1
  have h2 : St w0 S0 w (N ++ RL0 C A cap r sb rp Am cm Ah ch M' hr s) := ⟨S, by
    have h3 : Star ((N ++ [BlkR r 203 #[.slice A C.n cap, .int .u64 C.ph, .slice Am C.n cm, .slice (some ⟨sb, 0, none⟩) C.n C.n, .slice Ah hr.length ch], LisR 204 1 (.slice Am C.n cm) C.n (mcs rp C.n),
      ArrR sb 3 C.n (fun i => .int .i64 (s.st i)), LisR 240 2 (.slice Ah hr.length ch) hr.length (hc hr)]) ++ (List.range C.n).map (fun i => MxE (rp i) (C.B i) (C.P i) C.ph (s.ws i) M)) w S := by rw [List.append_assoc]; exact hs
    have h4 := Star.weakF h3 (R' := fun i => MxE (rp i) (C.B i) (C.P i) C.ph (s.ws i) M') fun i hi => ⟨MxE.ok _ _ _ _ _ _, fun T hT => hT.later h⟩
    rw [List.append_assoc] at h4; exact h4, hd⟩
  exact h2.comm
theorem rb_left (H : St w0 S0 w (RL Bx N C A cap r sb rp Am cm Ah ch now hr s)) {i : Nat} (hi : i < C.n) (h0 : 0 ≤ now) (hnow : now < 4611686018427387904) :
    Calls Tryz.prog 129 #[.pointer (some ⟨rp i, 0, none⟩), .int .u64 now] w fun e w' => e = .returned (.tuple #[.int .u64 (C.left s.ws i now), .int .i64 0]) ∧ St w0 S0 w' (RL Bx N C A cap r sb rp Am cm Ah ch now hr s) := by
  refine (St.call (mxe_left h0 hnow) (MxE.ok _ _ _ _ _ _) H _ (fam_at2 _ _ _ hi)).mono ?_
  rintro e w' ⟨he, hs⟩
  refine ⟨he, ?_⟩
  rw [fam_set2 _ _ _ _ hi] at hs
  rw [fam_like (R' := fun i => MxE (rp i) (C.B i) (C.P i) C.ph (s.ws i) now) (fun j hj => by split; (rename_i e; rw [e]); rfl)] at hs
  exact hs
theorem rb_take (H : St w0 S0 w (RL Bx N C A cap r sb rp Am cm Ah ch now hr s)) {i : Nat} (hi : i < C.n) (h0 : 0 ≤ now) (hnow : now < 4611686018427387904) (hlen : (s.ws i).length ≤ 200) (hl : 0 < C.left s.ws i now) :
    Calls Tryz.prog 131 #[.pointer (some ⟨rp i, 0, none⟩), .int .u64 now, .int .u64 1] w fun e w' => e = .returned (.tuple #[.int .u64 1, .int .i64 0]) ∧
      St w0 S0 w' (RL Bx N C A cap r sb rp Am cm Ah ch now hr { s with ws := upd s.ws i (s.ws i ++ [(C.K i now, 1)]) }) := by
  refine (St.call (mxe_take h0 hnow hlen hl) (MxE.ok _ _ _ _ _ _) H _ (fam_at2 _ _ _ hi)).mono ?_
  rintro e w' ⟨he, hs⟩
  refine ⟨he, ?_⟩
  rw [fam_set2 _ _ _ _ hi] at hs
  rw [fam_like (R' := fun j => MxE (rp j) (C.B j) (C.P j) C.ph (upd s.ws i (s.ws i ++ [(C.K i now, 1)]) j) now) (fun j hj => by unfold upd; split; (rename_i e; subst e; rfl); rfl)] at hs
  exact hs
theorem mcs_at {n i : Nat} (hi : i < n) : (mcs rp n)[i]? = some (.pointer (some ⟨rp i, 0, none⟩)) := by simp [mcs, hi]
/-- A run, counted. -/
theorem rrow (id u : Int) (w : World) (c4 : w.cell? ⟨r, 4, none⟩ = some (.slice Ah hr.length ch)) (hl : Lis w 240 2 (.slice Ah hr.length ch) hr.length (hc hr)) (hlen : hr.length ≤ 200) (hb : ∀ p ∈ hr, 0 ≤ p.1 ∧ p.1 < 4611686018427387904) (hu : 0 ≤ u ∧ u ≤ 4611686018427387904) :
    Calls Tryz.prog 130 #[.pointer (some ⟨r, 0, none⟩), .int .i64 id, .int .u64 u] w fun e w' => e = .returned (.int .i64 (run id u hr)) ∧ w = w' := by
  have HR := Lib.hid hl.reads.2
  have HB := Lib.hid hb
  obtain ⟨m, hm⟩ : ∃ m, hr.length = m := ⟨_, rfl⟩
  rw [hm] at c4 hlen HR
  have HM := Lib.hid hm
  clear hl hb hm
  go_enter Tryz.func130, Tryz.ntmps130
  go_wp2_with fail
  go_loopw [7, 8] (fun n i wr => ∃ d : Nat, d ≤ m ∧ n = .int .i64 d ∧ i = .int .i64 ((m : Int) - 1 - d) ∧ run id u hr = d + run id (u - d) (hr.drop d) ∧ wr = w) (fun n _ _ => m + 1 - (intOf n).toNat)
  case atStart => exact ⟨0, by omega, rfl, by simp, by simp, rfl⟩
  case round =>
    obtain ⟨d, hd, rfl, rfl, hrun, rfl⟩ := hrel
    have HRUN := Lib.hid hrun
    clear hrun
    by_cases hlt : d < m
    · obtain ⟨p, hp⟩ : ∃ p, hr[d]? = some p := ⟨_, List.getElem?_eq_getElem (by rw [HM.out]; exact hlt)⟩
      obtain ⟨g, off, rfl, hcc⟩ := HR.out.resolve_left (by omega)
      have hat := hc_at hp
      rw [HM.out] at hat
      have x0 := hcc _ _ hat.1
      have x1 := hcc _ _ hat.2
      rw [← Nat.add_assoc] at x1
      have hpb := HB.out p (List.mem_of_getElem? hp)
      have hdr : hr.drop d = p :: hr.drop (d + 1) := by
        obtain ⟨h1, h2⟩ := List.getElem?_eq_some_iff.1 hp
        rw [← h2]; exact List.drop_eq_getElem_cons h1
      have hstep : run id (u - d) (hr.drop d) = if p.2 = id ∧ p.1 + 1 = u - d then 1 + run id (u - d - 1) (hr.drop (d + 1)) else 0 := by rw [hdr, run]
      have HSTEP := Lib.hid hstep
      obtain ⟨i, hi⟩ : ∃ i : Nat, m - 1 - d = i := ⟨_, rfl⟩
      rw [hi] at x0 x1
      have hi2 : (m : Int) - 1 - d = i := by omega
      have i0 : (0 : Int) ≤ (i : Int) := by omega
      have i1 : (i : Int) < (m : Int) := by omega
      obtain ⟨p1, p2⟩ := p
      dsimp only at x0 x1 hpb HSTEP
      clear hat hcc hdr hstep hp hi
      have d0 : decide (0 ≤ (i : Int)) = true := decide_eq_true i0
      rw [hi2]
      have HI2 := Lib.hid hi2
      clear hi2
      by_cases e1 : p2 = id
      · have q1 : (p2 != id) = false := by simp [bne, e1]
        by_cases e2 : p1 + 1 + d = u
        · have q2 : (p1 + 1 + (d : Int) != u) = false := by simp [bne, e2]
          have HE := Lib.hid (show run id u hr = ((d + 1 : Nat)) + run id (u - (d + 1 : Nat)) (hr.drop (d + 1)) by
            rw [HRUN.out, HSTEP.out, if_pos ⟨e1, by omega⟩, show u - ((d + 1 : Nat) : Int) = u - d - 1 by omega]; omega)
          clear e1 e2
          go_wp2
          go_roundw
          case rel => exact ⟨d + 1, by omega, by go_num, by rw [← HI2.out]; congr 1; omega, HE.out, trivial⟩
          case measure => simp [intOf]; omega
        · have q2 : (p1 + 1 + (d : Int) != u) = true := by simp [bne, e2]
          have HE := Lib.hid (show run id u hr = d by rw [HRUN.out, HSTEP.out, if_neg (fun h => e2 (by omega))]; omega)
          clear e1 e2
          go_wp2
          go_ret
          exact ⟨by rw [HE.out]; rfl, rfl⟩
      · have q1 : (p2 != id) = true := by simp [bne, e1]
        have HE := Lib.hid (show run id u hr = d by rw [HRUN.out, HSTEP.out, if_neg (fun h => e1 h.1)]; omega)
        clear e1
        go_wp2
        go_ret
        exact ⟨by rw [HE.out]; rfl, rfl⟩
    · obtain rfl : d = m := by omega
      have HE := Lib.hid (show run id u hr = d by
        rw [HRUN.out, List.drop_eq_nil_of_le (by rw [HM.out]; omega)]; simp [run])
      have d0 : decide (0 ≤ (d : Int) - 1 - d) = false := decide_eq_false (by omega)
      go_wp2
      go_ret
      exact ⟨by rw [HE.out]; rfl, rfl⟩
end
end
section
set_option linter.unusedVariables false
set_option maxRecDepth 100000
set_option maxHeartbeats 800000
theorem Tryz.infoRM : (Tryz.prog.info? 204).map (fun i => (i.zero, i.size, i.bytes)) = some (some (.pointer none), 1, 8) := by kernel_rfl
theorem mcs_snoc (rp : Nat → Nat) (k x : Nat) : mcs (upd rp k x) (k + 1) = mcs rp k ++ [.pointer (some ⟨x, 0, none⟩)] := by
  unfold mcs
  rw [List.range_succ, List.map_append]
  congr 1
  · exact List.map_congr_left fun i hi => by
      have : i < k := by simpa using hi
      simp [upd, show ¬ i = k by omega]
  · simp [upd]
section
variable {w0 w w' : World} {S0 : Nat → Prop} {L : List Res} {C : BC} {A : Option Addr} {cap : Nat} {V : Nat → Nat → Value}
abbrev NL (C : BC) (A : Option Addr) (cap r sb : Nat) (rp : Nat → Nat) (Am : Option Addr) (cm k : Nat) : List Res :=
  [BlkR r 203 #[.slice A C.n cap, .int .u64 C.ph, .slice Am k cm, .slice (some ⟨sb, 0, none⟩) C.n C.n, .slice none 0 0], LisR 204 1 (.slice Am k cm) k (mcs rp k),
    ArrR sb 3 C.n (fun i => .int .i64 0), LisR 240 2 (.slice none 0 0) 0 []] ++ (List.range k).map (fun i => MxE (rp i) (C.B i) (C.P i) C.ph [] C.ph)
theorem RNew_o (H : St w0 S0 w L) (hC : C.OK) (rd : RdM w A C.n 4 V) (hV : MV C V) :
    Calls Tryz.prog 41 #[.slice A C.n cap, .int .u64 C.ph] w fun e w' => ∃ r sb rp, e = .returned (.pointer (some ⟨r, 0, none⟩)) ∧ St w0 S0 w' (L ++ [RBusR C A cap r sb rp 0 (bs0 C.ph)]) := by
  have h1 := hC.n1
  have h16 := hC.n16
  obtain ⟨iI, hiI, hzI, hsI, hbI⟩ := info_parts Tryz.infoI
  obtain ⟨iM, hiM, hzM, hsM, hbM⟩ := info_parts Tryz.infoRM
  have mI := fun W => run_make_rowN (P := Tryz.prog) 35 3 iI (.int .i64 0) Tryz.underlying35 hiI hzI rfl hsI .i64 .i64 C.n (by rw [hbI]; omega) (by omega) W
  have HH := Lib.hid H
  have HSH := Lib.hid hC.share
  have HPH := Lib.hid hC.ph
  clear H hiI hzI hsI hbI
  have s1 : St w None ((w.alloc (.cells (madeCells #[.int .i64 0] C.n) 3)).alloc (.cells #[.slice A C.n cap, .int .u64 C.ph, .slice none 0 0, .slice (some ⟨w.heap.size, 0, none⟩) C.n C.n, .slice none 0 0] 203)) (NL C A cap (w.heap.size + 1) w.heap.size (fun _ => 0) none 0 0) := by
    have x1 := (St.begin w).box_arr 3 (madeCells #[.int .i64 0] C.n) C.n (fun _ => .int .i64 0) (by simp [madeCells]) (fun i hi => by simp [madeCells, hi, Nat.mod_one])
    have x2 := x1.front 203 #[.slice A C.n cap, .int .u64 C.ph, .slice none 0 0, .slice (some ⟨w.heap.size, 0, none⟩) C.n C.n, .slice none 0 0]
    have x3 := ((x2.lis_nil 204 1).swap12).lis_nil 240 2
    simpa [NL, mcs] using x3
  have S1 := Lib.hid s1
  clear s1
  go_enter Tryz.func41, Tryz.ntmps41
  go_wp2_with fail
  have s1 := S1.out
  clear S1 mI
  generalize w.heap.size = g0 at *
  go_loopw [6] (fun i wr => ∃ (k : Nat) (rp : Nat → Nat) (Am : Option Addr) (cm : Nat), k ≤ C.n ∧ i = .int .i64 k ∧ St w None wr (NL C A cap (g0 + 1) g0 rp Am cm k)) (fun i _ => C.n - (intOf i).toNat)
  case atStart => exact ⟨0, fun _ => 0, none, 0, by omega, rfl, s1⟩
  case round =>
    clear s1
    obtain ⟨k, rp, Am, cm, hk, rfl, sr⟩ := hrel
    by_cases hlt : k < C.n
    · obtain ⟨ib, off, rfl, -, -, e2, e3⟩ := hV.at_ rd sr.below hlt
      have SR := Lib.hid sr
      obtain ⟨c0, c1, c2, c3, c4⟩ := (sr.blk 0 rfl).five
      have i0 : (0 : Int) ≤ (k : Int) := by omega
      have i1 : (k : Int) < (C.n : Int) := by omega
      have HV2 := Lib.hid hV
      have RD2 := Lib.hid rd
      clear sr c0 c1 c3 c4 rd hV hC
      go_wp2_with fail
      go_region_law (first
        | (go_simp; refine (mx_new SR.out.drew (C.B k) (C.P k) C.ph).mono ?_; rintro e w1 ⟨rr, rfl, s3⟩; have q2 := (s3.blk 0 rfl).five.2.2.1; have s4 := s3.alloc (.cells #[.pointer (some ⟨rr, 0, none⟩)] 204); have q3 := (s4.blk 0 rfl).five.2.2.1; have S4 := Lib.hid s4; clear s3 s4)
        | (refine step_lis (by rfl) _ _ _ (by rfl) 204 iM (.pointer none) 1 8 Tryz.underlying200 hiM hzM hsM hbM (by rfl) (by omega) (.slice Am k cm) k (mcs rp k) (by rfl) (S4.out.lis 1 rfl) _ 1 1 [.pointer (some ⟨rr, 0, none⟩)] (by rfl) (rds_box w1 _ _) (by simp [Value.oneCell']) (by unfold maxLen; omega) (by omega) ?_; intro B c w2 hl hg hat; have s5 := S4.out.lis_put 1 rfl hl hg hat; have f5 := (s5.blk 0 rfl).frozen 2; have q5 := (s5.blk 0 rfl).five.2.2.1; have S5 := Lib.hid s5; clear s5 hl hg hat))
      all_goals
        go_wp2_with fail
        go_roundw
        case rel =>
          have X1 := S5.out.set_ 0 rfl 2 (.slice B (k + 1) c)
          have X2 : St w None (w2.setCell ⟨g0 + 1, 2, none⟩ (.slice B (k + 1) c)) ([BlkR (g0 + 1) 203 #[.slice (some ⟨ib, off, none⟩) C.n cap, .int .u64 C.ph, .slice B (k + 1) c, .slice (some ⟨g0, 0, none⟩) C.n C.n, .slice none 0 0], LisR 204 1 (.slice B (k + 1) c) (k + 1) (mcs (upd rp k rr) (k + 1)),
            ArrR g0 3 C.n (fun i => .int .i64 0), LisR 240 2 (.slice none 0 0) 0 []] ++ (List.range k).map (fun i => MxE (rp i) (C.B i) (C.P i) C.ph [] C.ph) ++ [MxR rr (C.B k) (C.P k) C.ph C.ph []]) := by
            rw [mcs_snoc]
            exact X1
          have X4 := X2.fam_snoc (F' := fun i => MxE (upd rp k rr i) (C.B i) (C.P i) C.ph [] C.ph) (MxE.ok _ _ _ _ _ _) (fun i hi => by simp [upd, show ¬ i = k by omega]) (fun S h => ⟨C.ph, Int.le_refl _, xok0 (HSH.out k hlt) HPH.out, by simpa [upd] using h⟩)
          exact ⟨k + 1, upd rp k rr, B, c, by omega, by go_num, X4⟩
        case measure => simp [intOf]; omega
    · obtain rfl : k = C.n := by omega
      have SR := Lib.hid sr
      clear sr
      go_wp2_with fail
      go_ret
      have Y0 : St w None _ (RL0 C A cap (g0 + 1) g0 rp Am cm none 0 C.ph [] (bs0 C.ph)) := SR.out
      obtain ⟨S', y1, y2, y3⟩ := Y0.made
      exact ⟨_, _, rp, rfl, HH.out.more y3 (Star.one (RBusR.ok C A cap (g0 + 1) g0 rp 0 (bs0 C.ph)) ⟨[], Am, cm, none, 0, hok_begin C.ph, by simp, y1⟩) y2⟩
end
end
end bs
end Go.Proofs.YtdjhpdacglojaaaGreat
