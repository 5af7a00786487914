/- BsB: BusW BusR BusS BusT BusU BusX in a namespace of their own. Printed by bin/nsgen.py. -/
import Derived.Test.YtdjhpdacglojaaaGreatBsA
import Derived.Deep.DeepCutAuto
import Derived.LoopTactic
import Derived.Deep.RegionLaw
import Derived.BigRegion
import Derived.IntWalk
namespace Go.Proofs.YtdjhpdacglojaaaGreat
open Go.RowKit
namespace bs
section
set_option linter.unusedVariables false
theorem Tryz.infoI : (Tryz.prog.info? 3).map (fun i => (i.zero, i.size, i.bytes)) = some (some (.int .i64 0), 1, 8) := by kernel_rfl
/-- Is the bit set? -/
def bitB (y : Int) (j : Nat) : Bool := (bits BinOp.and IntKind.u16 (y / 2 ^ j) 1 == 1)
/-- The numbers below k that are meant. -/
def il (m : Nat → Bool) : Nat → List Nat
  | 0 => []
  | k + 1 => if m k = true then il m k ++ [k] else il m k
theorem il_yes {m : Nat → Bool} {k : Nat} (h : m k = true) : il m (k + 1) = il m k ++ [k] := by rw [il, if_pos h]
theorem il_no {m : Nat → Bool} {k : Nat} (h : m k = false) : il m (k + 1) = il m k := by rw [il, if_neg (by rw [h]; simp)]
theorem mem_il {m : Nat → Bool} {i : Nat} : ∀ {k : Nat}, i ∈ il m k ↔ i < k ∧ m i = true
  | 0 => by simp [il]
  | k + 1 => by
    cases h : m k
    · rw [il_no h, mem_il]; constructor
      · rintro ⟨a, b⟩; exact ⟨by omega, b⟩
      · rintro ⟨a, b⟩
        have : i ≠ k := fun e => by subst e; rw [h] at b; cases b
        exact ⟨by omega, b⟩
    · rw [il_yes h, List.mem_append, mem_il]; constructor
      · rintro (⟨a, b⟩ | a)
        · exact ⟨by omega, b⟩
        · simp at a; subst a; exact ⟨by omega, h⟩
      · rintro ⟨a, b⟩
        by_cases e : i = k
        · right; simp [e]
        · left; exact ⟨by omega, b⟩
theorem il_nodup (m : Nat → Bool) : ∀ k, (il m k).Nodup
  | 0 => by simp [il]
  | k + 1 => by
    cases h : m k
    · rw [il_no h]; exact il_nodup m k
    · rw [il_yes h, List.nodup_append]
      exact ⟨il_nodup m k, by simp, fun a ha b hb => by
        have := (mem_il.1 ha).1; simp at hb; omega⟩
theorem il_len (m : Nat → Bool) : ∀ k, (il m k).length ≤ k
  | 0 => by simp [il]
  | k + 1 => by
    have := il_len m k
    cases h : m k
    · rw [il_no h]; omega
    · rw [il_yes h]; simp; omega
theorem il_at {m : Nat → Bool} {n c i : Nat} (h : (il m n)[c]? = some i) : i < n ∧ m i = true := mem_il.1 (List.mem_of_getElem? h)
theorem il_inj {m : Nat → Bool} {n c d i : Nat} (h : (il m n)[c]? = some i) (h2 : (il m n)[d]? = some i) : c = d := by
  obtain ⟨h3, h4⟩ := List.getElem?_eq_some_iff.1 h
  obtain ⟨h5, h6⟩ := List.getElem?_eq_some_iff.1 h2
  exact (List.getElem_inj (il_nodup m n)).1 (h4.trans h6.symm)
theorem il_of {m : Nat → Bool} {n i : Nat} (h1 : i < n) (h2 : m i = true) : ∃ c : Nat, (il m n)[c]? = some i := by
  obtain ⟨c, hc, h⟩ := List.mem_iff_getElem.1 (mem_il.2 ⟨h1, h2⟩)
  exact ⟨c, by rw [List.getElem?_eq_getElem hc, h]⟩
/-- As cells, each once. -/
def sv (l : List Nat) : List Value := l.map fun (i : Nat) => Value.int .i64 (i : Int)
theorem sv_app (l : List Nat) (i : Nat) : sv (l ++ [i]) = sv l ++ [.int .i64 (i : Int)] := by simp [sv]
theorem sv_at {l : List Nat} {c i : Nat} (h : l[c]? = some i) : (sv l)[c]? = some (.int .i64 (i : Int)) := by simp [sv, h]
/-- As cells, each twice. -/
def dv : List Nat → List Value
  | [] => []
  | i :: l => .int .i64 (i : Int) :: .int .i64 (i : Int) :: dv l
theorem dv_app (l : List Nat) (i : Nat) : dv (l ++ [i]) = dv l ++ [.int .i64 (i : Int), .int .i64 (i : Int)] := by
  induction l with
  | nil => rfl
  | cons a l ih => simp [dv, ih]
theorem dv_len (l : List Nat) : (dv l).length = 2 * l.length := by
  induction l with
  | nil => rfl
  | cons a l ih => simp [dv, ih]; omega
theorem dv_at : ∀ {l : List Nat} {j i : Nat}, l[j / 2]? = some i → (dv l)[j]? = some (.int .i64 (i : Int))
  | [], j, i, h => by simp at h
  | a :: l, 0, i, h => by simp at h; subst h; rfl
  | a :: l, 1, i, h => by simp at h; subst h; rfl
  | a :: l, j + 2, i, h => by
    have e : (j + 2) / 2 = j / 2 + 1 := by omega
    rw [e] at h
    have := dv_at (l := l) (j := j) (i := i) (by simpa using h)
    simpa [dv] using this
theorem want_of {l : List Nat} {nw : Nat} {f : Nat → Int} {n : Nat} {m : Nat → Bool} (hl : l = il m n) (h1 : ∀ j, j < nw → ∃ c i : Nat, l[c]? = some i ∧ f j = i) (h2 : ∀ c i : Nat, l[c]? = some i → ∃ j, j < nw ∧ f j = i) {i : Nat} (hi : i < n) : wantB nw f i = m i := by
  subst hl
  unfold wantB
  cases hm : m i with
  | true =>
    obtain ⟨c, hc⟩ := il_of hi hm
    obtain ⟨j, hj, hf⟩ := h2 c i hc
    exact decide_eq_true ⟨j, hj, hf⟩
  | false =>
    refine decide_eq_false ?_
    rintro ⟨j, hj, hf⟩
    obtain ⟨c, i', hc, hf'⟩ := h1 j hj
    have : i' = i := by omega
    subst this
    have := (il_at hc).2
    rw [hm] at this; cases this
theorem okB_of {l : List Nat} {nw : Nat} {f : Nat → Int} {n : Nat} {m : Nat → Bool} (hl : l = il m n) (h1 : ∀ j, j < nw → ∃ c i : Nat, l[c]? = some i ∧ f j = i) : okB nw f n = true :=
  decide_eq_true fun j hj => by
    obtain ⟨c, i, hc, hf⟩ := h1 j hj
    subst hl
    have := (il_at hc).1
    omega
/-- Each of them twice. -/
def fd (l : List Nat) (j : Nat) : Int := (l.getD (j / 2) 0 : Nat)
def fs (l : List Nat) (j : Nat) : Int := (l.getD j 0 : Nat)
theorem fd_ok (l : List Nat) : (∀ j, j < 2 * l.length → ∃ c i : Nat, l[c]? = some i ∧ fd l j = i) ∧ (∀ c i : Nat, l[c]? = some i → ∃ j, j < 2 * l.length ∧ fd l j = i) := by
  constructor
  · intro j hj
    have h : j / 2 < l.length := by omega
    exact ⟨j / 2, l[j / 2], List.getElem?_eq_getElem h, by simp [fd, List.getD, List.getElem?_eq_getElem h]⟩
  · intro c i h
    obtain ⟨hc, _⟩ := List.getElem?_eq_some_iff.1 h
    exact ⟨2 * c, by omega, by simp [fd, List.getD, h]⟩
theorem fs_ok (l : List Nat) : (∀ j, j < l.length → ∃ c i : Nat, l[c]? = some i ∧ fs l j = i) ∧ (∀ c i : Nat, l[c]? = some i → ∃ j, j < l.length ∧ fs l j = i) := by
  constructor
  · intro j h
    exact ⟨j, l[j], List.getElem?_eq_getElem h, by simp [fs, List.getD, List.getElem?_eq_getElem h]⟩
  · intro c i h
    obtain ⟨hc, _⟩ := List.getElem?_eq_some_iff.1 h
    exact ⟨c, hc, by simp [fs, List.getD, h]⟩
theorem rd_dv {w : World} {A : Option Addr} {cap : Nat} {l : List Nat} (h : Lis w 3 1 (.slice A (2 * l.length) cap) (2 * l.length) (dv l)) : Rd w A (2 * l.length) (fun j => .int .i64 (fd l j)) :=
  lis_rd h fun j hj => by
    have h : j / 2 < l.length := by omega
    have := dv_at (List.getElem?_eq_getElem h)
    rw [this]; simp [fd, List.getD, List.getElem?_eq_getElem h]
theorem rd_sv {w : World} {A : Option Addr} {cap : Nat} {l : List Nat} (h : Lis w 3 1 (.slice A l.length cap) l.length (sv l)) : Rd w A l.length (fun j => .int .i64 (fs l j)) :=
  lis_rd h fun j hj => by
    have := sv_at (List.getElem?_eq_getElem hj)
    rw [this]; simp [fs, List.getD, List.getElem?_eq_getElem hj]
end
section
set_option linter.unusedVariables false
set_option maxRecDepth 100000
set_option maxHeartbeats 400000
/-- How many slots in a row, up to u, one has had; the newest first. -/
def run (id : Int) : Int → List (Int × Int) → Nat
  | _, [] => 0
  | u, p :: t => if p.2 = id ∧ p.1 + 1 = u then 1 + run id (u - 1) t else 0
/-- All slots as cells, the oldest first. -/
def hc : List (Int × Int) → List Value
  | [] => []
  | p :: t => hc t ++ [.int .u64 p.1, .int .i64 p.2]
theorem hc_len : ∀ l : List (Int × Int), (hc l).length = l.length * 2
  | [] => rfl
  | p :: t => by simp [hc, hc_len t]; omega
theorem hc_at : ∀ {l : List (Int × Int)} {d : Nat} {p : Int × Int}, l[d]? = some p → (hc l)[(l.length - 1 - d) * 2]? = some (.int .u64 p.1) ∧ (hc l)[(l.length - 1 - d) * 2 + 1]? = some (.int .i64 p.2)
  | [], d, p, h => by simp at h
  | q :: t, 0, p, h => by
    simp at h; subst h
    have e : (q :: t).length - 1 - 0 = t.length := by simp
    rw [e]
    unfold hc
    exact ⟨by rw [List.getElem?_append_right (by rw [hc_len]; omega), hc_len]; simp, by rw [List.getElem?_append_right (by rw [hc_len]; omega), hc_len]; simp [show t.length * 2 + 1 - t.length * 2 = 1 by omega]⟩
  | q :: t, d + 1, p, h => by
    have h' : t[d]? = some p := by simpa using h
    have hd := (List.getElem?_eq_some_iff.1 h').1
    have e : (q :: t).length - 1 - (d + 1) = t.length - 1 - d := by simp; omega
    obtain ⟨a, b⟩ := hc_at h'
    rw [e]
    unfold hc
    exact ⟨by rw [List.getElem?_append_left (by rw [hc_len]; omega)]; exact a, by rw [List.getElem?_append_left (by rw [hc_len]; omega)]; exact b⟩
/-- What the slots that were tell of the last one. -/
structure HOK (ph : Int) (s : BS) (hr : List (Int × Int)) : Prop where
  emp : hr = [] → s.next = ph ∧ s.who = -1
  top : ∀ p t, hr = p :: t → p.1 + 1 = s.next ∧ p.2 = s.who
  row : ∀ id : Nat, s.who = id → s.row = run id s.next hr
  nob : s.who = -1 → s.row = 0
  bd : ∀ p ∈ hr, 0 ≤ p.1 ∧ p.1 < 4611686018427387904
theorem run_now {ph : Int} {s : BS} {hr : List (Int × Int)} {now : Int} (h : HOK ph s hr) (hx : s.next ≤ now) (id : Nat) : (run id now hr : Int) = if s.who1 now = id then s.row1 now else 0 := by
  unfold BS.who1 BS.row1
  by_cases hlt : s.next < now
  · rw [if_pos hlt, if_pos hlt, if_neg (by omega)]
    cases hr with
    | nil => rfl
    | cons p t =>
      have := h.top p t rfl
      unfold run
      rw [if_neg (by omega)]; rfl
  · rw [if_neg hlt, if_neg hlt]
    obtain rfl : now = s.next := by omega
    by_cases e : s.who = id
    · rw [if_pos e, h.row id e]
    · rw [if_neg e]
      cases hr with
      | nil => rfl
      | cons p t =>
        have := h.top p t rfl
        unfold run
        rw [if_neg (by omega)]; rfl
theorem hok_begin (ph : Int) : HOK ph (bs0 ph) [] := ⟨fun _ => ⟨rfl, rfl⟩, (fun p t h => by cases h), (fun id h => by have h2 : (-1 : Int) = id := h; omega), fun _ => rfl, (fun p hp => by simp at hp)⟩
theorem hok_next {C : BC} {s s' : BS} {hr : List (Int × Int)} {now v f : Int} {ok : Bool} {want : Nat → Bool} (h : HOK C.ph s hr) (h0 : 0 ≤ now) (hR : SlotR C s now ok want v f s') : ∃ hr', HOK C.ph s' hr' ∧ hr'.length ≤ hr.length + 1 ∧ (f ≠ 2 ∧ f ≠ 1 → hr' = (now, s'.who) :: hr) ∧ (f = 2 ∨ f = 1 → hr' = hr) := by
  rcases hR with ⟨_, _, rfl, rfl⟩ | ⟨_, _, _, rfl, rfl⟩ | ⟨h1, h2, h3, h4, _, rfl, rfl⟩ | ⟨h1, h2, h3, b, hb, h4, _, rfl, rfl⟩
  · exact ⟨hr, h, by omega, fun h => by omega, fun _ => rfl⟩
  · exact ⟨hr, h, by omega, fun h => by omega, fun _ => rfl⟩
  · refine ⟨(now, -1) :: hr, ⟨(fun h => by cases h), fun p t e => ?_, fun id h => ?_, fun _ => rfl, fun p hp => ?_⟩, by simp, fun _ => rfl, fun h => by omega⟩
    · injection e with e1 e2; subst e1; exact ⟨rfl, rfl⟩
    · have : (-1 : Int) = id := h
      omega
    · rcases List.mem_cons.1 hp with e | e
      · subst e; exact ⟨h0, h1⟩
      · exact h.bd p e
  · refine ⟨(now, (b : Int)) :: hr, ⟨(fun h => by cases h), fun p t e => ?_, fun id hid => ?_, fun hn => ?_, fun p hp => ?_⟩, by simp, fun _ => rfl, fun h => by omega⟩
    · injection e with e1 e2; subst e1; exact ⟨rfl, rfl⟩
    · have e : (b : Int) = id := hid
      obtain rfl : b = id := by omega
      show (if s.who1 now = (b : Int) then s.row1 now else 0) + 1 = ((run b (now + 1) ((now, (b : Int)) :: hr) : Nat) : Int)
      have := run_now h h3 b
      have e3 : run b (now + 1) ((now, (b : Int)) :: hr) = 1 + run b now hr := by
        rw [run, if_pos ⟨rfl, rfl⟩, show now + 1 - 1 = now by omega]
      rw [e3]; omega
    · have : (b : Int) = -1 := hn
      omega
    · rcases List.mem_cons.1 hp with e | e
      · subst e; exact ⟨h0, h1⟩
      · exact h.bd p e
/-- The document's meter, asked at M at the latest. -/
def MxE (r : Nat) (B P ph : Int) (ws : List (Int × Int)) (M : Int) : Res := fun w S => ∃ N, N ≤ M ∧ XOK B P ph N ws ∧ MxR r B P ph N ws w S
theorem MxE.ok (r : Nat) (B P ph : Int) (ws : List (Int × Int)) (M : Int) : Ok (MxE r B P ph ws M) :=
  ⟨fun ⟨N, _, _, h⟩ => (MxR.ok _ _ _ _ _ _).lt h, fun ⟨N, h1, h2, h⟩ hk => ⟨N, h1, h2, (MxR.ok _ _ _ _ _ _).frame h hk⟩⟩
theorem MxE.later {r : Nat} {B P ph : Int} {ws : List (Int × Int)} {M M' : Int} {w : World} {S : Nat → Prop} (h : M ≤ M') (hm : MxE r B P ph ws M w S) : MxE r B P ph ws M' w S := by
  obtain ⟨N, h1, h2⟩ := hm; exact ⟨N, Int.le_trans h1 h, h2⟩
theorem mxe_left {r : Nat} {B P ph now : Int} {ws : List (Int × Int)} (h0 : 0 ≤ now) (hnow : now < 4611686018427387904) : ∀ w S, MxE r B P ph ws now w S →
    Calls Tryz.prog 129 #[.pointer (some ⟨r, 0, none⟩), .int .u64 now] w fun e w' => e = .returned (.tuple #[.int .u64 (B - sw ((now - ph) / P) ws), .int .i64 0]) ∧ ∃ S', MxE r B P ph ws now w' S' ∧ Did S S' w w' := by
  rintro w S ⟨N, hN, ho, h⟩
  have hR : LeftR B P ph N ws now (B - sw ((now - ph) / P) ws) 0 now := Or.inr (Or.inr ⟨hnow, hN, rfl, rfl, rfl⟩)
  refine (mx_left ho h0 hR w S h).mono ?_
  rintro e w' ⟨he, S', hm, hd⟩
  exact ⟨he, S', ⟨now, Int.le_refl _, hR.xok ho, hm⟩, hd⟩
theorem mxe_take {r : Nat} {B P ph now : Int} {ws : List (Int × Int)} (h0 : 0 ≤ now) (hnow : now < 4611686018427387904) (hlen : ws.length ≤ 200) (hl : 0 < B - sw ((now - ph) / P) ws) : ∀ w S, MxE r B P ph ws now w S →
    Calls Tryz.prog 131 #[.pointer (some ⟨r, 0, none⟩), .int .u64 now, .int .u64 1] w fun e w' => e = .returned (.tuple #[.int .u64 1, .int .i64 0]) ∧ ∃ S', MxE r B P ph (ws ++ [((now - ph) / P, 1)]) now w' S' ∧ Did S S' w w' := by
  rintro w S ⟨N, hN, ho, h⟩
  have hR : TakeR B P ph N ws now 1 1 0 now (ws ++ [((now - ph) / P, 1)]) := ⟨_, Or.inr (Or.inr ⟨hnow, hN, rfl, rfl, rfl⟩), Or.inr ⟨rfl, by unfold mn; split <;> omega, rfl⟩⟩
  refine (mx_take ho h0 (by omega) hlen hR w S h).mono ?_
  rintro e w' ⟨he, S', hm, hd⟩
  exact ⟨he, S', ⟨now, Int.le_refl _, hR.xok (by omega) ho, hm⟩, hd⟩
/-- Whose meters are which. -/
def mcs (rp : Nat → Nat) (n : Nat) : List Value := (List.range n).map fun i => .pointer (some ⟨rp i, 0, none⟩)
abbrev RL0 (C : BC) (A : Option Addr) (cap r sb : Nat) (rp : Nat → Nat) (Am : Option Addr) (cm : Nat) (Ah : Option Addr) (ch : Nat) (M : Int) (hr : List (Int × Int)) (s : BS) : List Res :=
  [BlkR r 203 #[.slice A C.n cap, .int .u64 C.ph, .slice Am C.n cm, .slice (some ⟨sb, 0, none⟩) C.n C.n, .slice Ah hr.length ch], LisR 204 1 (.slice Am C.n cm) C.n (mcs rp C.n),
    ArrR sb 3 C.n (fun i => .int .i64 (s.st i)), LisR 240 2 (.slice Ah hr.length ch) hr.length (hc hr)] ++ (List.range C.n).map (fun i => MxE (rp i) (C.B i) (C.P i) C.ph (s.ws i) M)
/-- The same among other things: boxes in front, others behind. -/
abbrev RL (Bx N : List Res) (C : BC) (A : Option Addr) (cap r sb : Nat) (rp : Nat → Nat) (Am : Option Addr) (cm : Nat) (Ah : Option Addr) (ch : Nat) (M : Int) (hr : List (Int × Int)) (s : BS) : List Res :=
  (Bx ++ [BlkR r 203 #[.slice A C.n cap, .int .u64 C.ph, .slice Am C.n cm, .slice (some ⟨sb, 0, none⟩) C.n C.n, .slice Ah hr.length ch], LisR 204 1 (.slice Am C.n cm) C.n (mcs rp C.n),
    ArrR sb 3 C.n (fun i => .int .i64 (s.st i)), LisR 240 2 (.slice Ah hr.length ch) hr.length (hc hr)]) ++ (List.range C.n).map (fun i => MxE (rp i) (C.B i) (C.P i) C.ph (s.ws i) M) ++ N
def RBusR (C : BC) (A : Option Addr) (cap r sb : Nat) (rp : Nat → Nat) (q : Nat) (s : BS) : Res := fun w S => ∃ hr Am cm Ah ch, HOK C.ph s hr ∧ hr.length ≤ q ∧ Star (RL0 C A cap r sb rp Am cm Ah ch s.next hr s) w S
theorem RBusR.ok (C : BC) (A : Option Addr) (cap r sb : Nat) (rp : Nat → Nat) (q : Nat) (s : BS) : Ok (RBusR C A cap r sb rp q s) :=
  ⟨fun ⟨_, _, _, _, _, _, _, h⟩ => (Star.ok _).lt h, fun ⟨hr, Am, cm, Ah, ch, h1, h2, h⟩ hk => ⟨hr, Am, cm, Ah, ch, h1, h2, (Star.ok _).frame h hk⟩⟩
theorem fam_at2 {n i : Nat} (A N : List Res) (R : Nat → Res) (hi : i < n) : (A ++ (List.range n).map R ++ N)[A.length + i]? = some (R i) := by
  rw [List.getElem?_append_left (by simp; omega)]; exact fam_at A R hi
theorem fam_set2 {n i : Nat} (A N : List Res) (R : Nat → Res) (R' : Res) (hi : i < n) : (A ++ (List.range n).map R ++ N).set (A.length + i) R' = A ++ (List.range n).map (fun j => if j = i then R' else R j) ++ N := by
  rw [List.set_append_left _ _ (by simp; omega), fam_set A R R' hi]
/-- The last one is things side by side, whichever. -/
theorem _root_.Go.Proofs.YtdjhpdacglojaaaGreat.St.unfoldE {α : Type} {w0 w : World} {S0 : Nat → Prop} {A : List Res} {R : Res} {B : α → List Res} {Q : α → Prop} (h : St w0 S0 w (A ++ [R])) (hr : ∀ S, R w S → ∃ x, Q x ∧ Star (B x) w S) : ∃ x, Q x ∧ St w0 S0 w (A ++ B x) := by
  obtain ⟨S, ⟨F, f1, f2, f3, f4⟩, hd⟩ := h
  obtain ⟨x, hq, hB⟩ := hr _ (f1 A.length R (by simp)).2
  have hA : Star A w (fun b => ∃ i, i < A.length ∧ F i b) := ⟨fun i b => i < A.length ∧ F i b, fun i R hR => by
      have hi : i < A.length := by
        rcases Nat.lt_or_ge i A.length with h | h
        · exact h
        · rw [List.getElem?_eq_none h] at hR; cases hR
      have e : (fun b => i < A.length ∧ F i b) = F i := funext fun b => propext ⟨fun h => h.2, fun h => ⟨hi, h⟩⟩
      dsimp only; rw [e]; exact f1 i R (by rw [List.getElem?_append_left hi]; exact hR), fun i j b hi hj => f2 i j b hi.2 hj.2, fun i b hi => hi.1, fun b => Iff.rfl⟩
  have hj := Star.append hA hB (fun b ⟨i, hi, h1⟩ h2 => by have := f2 i _ b h1 h2; omega)
  have e : (fun b => (∃ i, i < A.length ∧ F i b) ∨ F A.length b) = S := funext fun b => propext ⟨fun h => (f4 b).2 (h.elim (fun ⟨i, _, h⟩ => ⟨i, h⟩) fun h => ⟨_, h⟩), fun h => by
    obtain ⟨i, hi⟩ := (f4 b).1 h
    have hl := f3 i b hi
    simp at hl
    rcases Nat.lt_or_ge i A.length with hl' | hl'
    · exact Or.inl ⟨i, hl', hi⟩
    · obtain rfl : i = A.length := by omega
      exact Or.inr hi⟩
  rw [e] at hj
  exact ⟨x, hq, S, hj, hd⟩
section
variable {w0 w w' : World} {S0 : Nat → Prop} {Bx N : List Res} {C : BC} {A : Option Addr} {cap r sb : Nat} {rp : Nat → Nat} {Am : Option Addr} {cm : Nat} {Ah : Option Addr} {ch : Nat} {M now : Int} {hr : List (Int × Int)} {s : BS}
theorem rb_open {q : Nat} (H : St w0 S0 w (RBusR C A cap r sb rp q s :: N)) : ∃ hr Am cm Ah ch, HOK C.ph s hr ∧ hr.length ≤ q ∧ St w0 S0 w (RL [] N C A cap r sb rp Am cm Ah ch s.next hr s) := by
  have h : St w0 S0 w (N ++ [RBusR C A cap r sb rp q s]) := St.comm (A := [RBusR C A cap r sb rp q s]) H
  obtain ⟨x, hq, h2⟩ := h.unfoldE (α := List (Int × Int) × Option Addr × Nat × Option Addr × Nat) (Q := fun x => HOK C.ph s x.1 ∧ x.1.length ≤ q) (B := fun x => RL0 C A cap r sb rp x.2.1 x.2.2.1 x.2.2.2.1 x.2.2.2.2 s.next x.1 s) (fun S ⟨hr, Am, cm, Ah, ch, h1, h2, h3⟩ => ⟨(hr, Am, cm, Ah, ch), ⟨h1, h2⟩, h3⟩)
  exact ⟨x.1, x.2.1, x.2.2.1, x.2.2.2.1, x.2.2.2.2, hq.1, hq.2, h2.comm⟩
theorem rb_close {q : Nat} (H : St w0 S0 w (RL [] N C A cap r sb rp Am cm Ah ch M hr s)) (hM : M ≤ s.next) (h1 : HOK C.ph s hr) (h2 : hr.length ≤ q) : St w0 S0 w (RBusR C A cap r sb rp q s :: N) := by
  have h : St w0 S0 w (N ++ RL0 C A cap r sb rp Am cm Ah ch M hr s) := St.comm (A := RL0 C A cap r sb rp Am cm Ah ch M hr s) H
  have h3 := h.fold (RBusR.ok C A cap r sb rp q s) (fun S hs => ⟨hr, Am, cm, Ah, ch, h1, h2, Star.weakF hs fun i hi => ⟨MxE.ok _ _ _ _ _ _, fun T hT => hT.later hM⟩⟩)
  exact h3.comm
theorem rb_later {M' : Int} (H : St w0 S0 w (RL [] N C A cap r sb rp Am cm Ah ch M hr s)) (h : M ≤ M') : St w0 S0 w (RL [] N C A cap r sb rp Am cm Ah ch M' hr s) := by
  have h1 : St w0 S0 w (N ++ RL0 C A cap r sb rp Am cm Ah ch M hr s) := St.comm (A := RL0 C A cap r sb rp Am cm Ah ch M hr s) H
  obtain ⟨S, hs, hd⟩ := h1
  have h2 : St w0 S0 w (N ++ RL0 C A cap r sb rp Am cm Ah ch M' hr s) := ⟨S, by
    have h3 : Star ((N ++ [BlkR r 203 #[.slice A C.n cap, .int .u64 C.ph, .slice Am C.n cm, .slice (some ⟨sb, 0, none⟩) C.n C.n, .slice Ah hr.length ch], LisR 204 1 (.slice Am C.n cm) C.n (mcs rp C.n),
      ArrR sb 3 C.n (fun i => .int .i64 (s.st i)), LisR 240 2 (.slice Ah hr.length ch) hr.length (hc hr)]) ++ (List.range C.n).map (fun i => MxE (rp i) (C.B i) (C.P i) C.ph (s.ws i) M)) w S := by rw [List.append_assoc]; exact hs
    have h4 := Star.weakF h3 (R' := fun i => MxE (rp i) (C.B i) (C.P i) C.ph (s.ws i) M') fun i hi => ⟨MxE.ok _ _ _ _ _ _, fun T hT => hT.later h⟩
    rw [List.append_assoc] at h4; exact h4, hd⟩
  exact h2.comm
theorem rb_left (H : St w0 S0 w (RL Bx N C A cap r sb rp Am cm Ah ch now hr s)) {i : Nat} (hi : i < C.n) (h0 : 0 ≤ now) (hnow : now < 4611686018427387904) :
    Calls Tryz.prog 129 #[.pointer (some ⟨rp i, 0, none⟩), .int .u64 now] w fun e w' => e = .returned (.tuple #[.int .u64 (C.left s.ws i now), .int .i64 0]) ∧ St w0 S0 w' (RL Bx N C A cap r sb rp Am cm Ah ch now hr s) := by
  refine (St.call (mxe_left h0 hnow) (MxE.ok _ _ _ _ _ _) H _ (fam_at2 _ _ _ hi)).mono ?_
  rintro e w' ⟨he, hs⟩
  refine ⟨he, ?_⟩
  rw [fam_set2 _ _ _ _ hi] at hs
  rw [fam_like (R' := fun i => MxE (rp i) (C.B i) (C.P i) C.ph (s.ws i) now) (fun j hj => by split; (rename_i e; rw [e]); rfl)] at hs
  exact hs
theorem rb_take (H : St w0 S0 w (RL Bx N C A cap r sb rp Am cm Ah ch now hr s)) {i : Nat} (hi : i < C.n) (h0 : 0 ≤ now) (hnow : now < 4611686018427387904) (hlen : (s.ws i).length ≤ 200) (hl : 0 < C.left s.ws i now) :
    Calls Tryz.prog 131 #[.pointer (some ⟨rp i, 0, none⟩), .int .u64 now, .int .u64 1] w fun e w' => e = .returned (.tuple #[.int .u64 1, .int .i64 0]) ∧
      St w0 S0 w' (RL Bx N C A cap r sb rp Am cm Ah ch now hr { s with ws := upd s.ws i (s.ws i ++ [(C.K i now, 1)]) }) := by
  refine (St.call (mxe_take h0 hnow hlen hl) (MxE.ok _ _ _ _ _ _) H _ (fam_at2 _ _ _ hi)).mono ?_
  rintro e w' ⟨he, hs⟩
  refine ⟨he, ?_⟩
  rw [fam_set2 _ _ _ _ hi] at hs
  rw [fam_like (R' := fun j => MxE (rp j) (C.B j) (C.P j) C.ph (upd s.ws i (s.ws i ++ [(C.K i now, 1)]) j) now) (fun j hj => by unfold upd; split; (rename_i e; subst e; rfl); rfl)] at hs
  exact hs
theorem mcs_at {n i : Nat} (hi : i < n) : (mcs rp n)[i]? = some (.pointer (some ⟨rp i, 0, none⟩)) := by simp [mcs, hi]
/-- A run, counted. -/
theorem rrow (id u : Int) (w : World) (c4 : w.cell? ⟨r, 4, none⟩ = some (.slice Ah hr.length ch)) (hl : Lis w 240 2 (.slice Ah hr.length ch) hr.length (hc hr)) (hlen : hr.length ≤ 200) (hb : ∀ p ∈ hr, 0 ≤ p.1 ∧ p.1 < 4611686018427387904) (hu : 0 ≤ u ∧ u ≤ 4611686018427387904) :
    Calls Tryz.prog 130 #[.pointer (some ⟨r, 0, none⟩), .int .i64 id, .int .u64 u] w fun e w' => e = .returned (.int .i64 (run id u hr)) ∧ w = w' := by
  have HR := Lib.hid hl.reads.2
  have HB := Lib.hid hb
  obtain ⟨m, hm⟩ : ∃ m, hr.length = m := ⟨_, rfl⟩
  rw [hm] at c4 hlen HR
  have HM := Lib.hid hm
  clear hl hb hm
  go_enter Tryz.func130, Tryz.ntmps130
  go_wp2_with fail
  go_loopw [7, 8] (fun n i wr => ∃ d : Nat, d ≤ m ∧ n = .int .i64 d ∧ i = .int .i64 ((m : Int) - 1 - d) ∧ run id u hr = d + run id (u - d) (hr.drop d) ∧ wr = w) (fun n _ _ => m + 1 - (intOf n).toNat)
  case atStart => exact ⟨0, by omega, rfl, by simp, by simp, rfl⟩
  case round =>
    obtain ⟨d, hd, rfl, rfl, hrun, rfl⟩ := hrel
    have HRUN := Lib.hid hrun
    clear hrun
    by_cases hlt : d < m
    · obtain ⟨p, hp⟩ : ∃ p, hr[d]? = some p := ⟨_, List.getElem?_eq_getElem (by rw [HM.out]; exact hlt)⟩
      obtain ⟨g, off, rfl, hcc⟩ := HR.out.resolve_left (by omega)
      have hat := hc_at hp
      rw [HM.out] at hat
      have x0 := hcc _ _ hat.1
      have x1 := hcc _ _ hat.2
      rw [← Nat.add_assoc] at x1
      have hpb := HB.out p (List.mem_of_getElem? hp)
      have hdr : hr.drop d = p :: hr.drop (d + 1) := by
        obtain ⟨h1, h2⟩ := List.getElem?_eq_some_iff.1 hp
        rw [← h2]; exact List.drop_eq_getElem_cons h1
      have hstep : run id (u - d) (hr.drop d) = if p.2 = id ∧ p.1 + 1 = u - d then 1 + run id (u - d - 1) (hr.drop (d + 1)) else 0 := by rw [hdr, run]
      have HSTEP := Lib.hid hstep
      obtain ⟨i, hi⟩ : ∃ i : Nat, m - 1 - d = i := ⟨_, rfl⟩
      rw [hi] at x0 x1
      have hi2 : (m : Int) - 1 - d = i := by omega
      have i0 : (0 : Int) ≤ (i : Int) := by omega
      have i1 : (i : Int) < (m : Int) := by omega
      obtain ⟨p1, p2⟩ := p
      dsimp only at x0 x1 hpb HSTEP
      clear hat hcc hdr hstep hp hi
      have d0 : decide (0 ≤ (i : Int)) = true := decide_eq_true i0
      rw [hi2]
      have HI2 := Lib.hid hi2
      clear hi2
      by_cases e1 : p2 = id
      · have q1 : (p2 != id) = false := by simp [bne, e1]
        by_cases e2 : p1 + 1 + d = u
        · have q2 : (p1 + 1 + (d : Int) != u) = false := by simp [bne, e2]
          have HE := Lib.hid (show run id u hr = ((d + 1 : Nat)) + run id (u - (d + 1 : Nat)) (hr.drop (d + 1)) by
            rw [HRUN.out, HSTEP.out, if_pos ⟨e1, by omega⟩, show u - ((d + 1 : Nat) : Int) = u - d - 1 by omega]; omega)
          clear e1 e2
          go_wp2
          go_roundw
          case rel => exact ⟨d + 1, by omega, by go_num, by rw [← HI2.out]; congr 1; omega, HE.out, trivial⟩
          case measure => simp [intOf]; omega
        · have q2 : (p1 + 1 + (d : Int) != u) = true := by simp [bne, e2]
          have HE := Lib.hid (show run id u hr = d by rw [HRUN.out, HSTEP.out, if_neg (fun h => e2 (by omega))]; omega)
          clear e1 e2
          go_wp2
          go_ret
          exact ⟨by rw [HE.out]; rfl, rfl⟩
      · have q1 : (p2 != id) = true := by simp [bne, e1]
        have HE := Lib.hid (show run id u hr = d by rw [HRUN.out, HSTEP.out, if_neg (fun h => e1 h.1)]; omega)
        clear e1
        go_wp2
        go_ret
        exact ⟨by rw [HE.out]; rfl, rfl⟩
    · obtain rfl : d = m := by omega
      have HE := Lib.hid (show run id u hr = d by
        rw [HRUN.out, List.drop_eq_nil_of_le (by rw [HM.out]; omega)]; simp [run])
      have d0 : decide (0 ≤ (d : Int) - 1 - d) = false := decide_eq_false (by omega)
      go_wp2
      go_ret
      exact ⟨by rw [HE.out]; rfl, rfl⟩
end
end
section
set_option linter.unusedVariables false
set_option maxRecDepth 100000
set_option maxHeartbeats 800000
theorem Tryz.infoHad : (Tryz.prog.info? 240).map (fun i => (i.zero, i.size, i.bytes)) = some (some (.agg #[.int .u64 0, .int .i64 0]), 2, 16) := by kernel_rfl
theorem Tryz.infoB : (Tryz.prog.info? 4).map (fun i => (i.zero, i.size, i.bytes)) = some (some (.bool false), 1, 1) := by kernel_rfl
theorem _root_.Go.Proofs.YtdjhpdacglojaaaGreat.St.front_row {w0 w : World} {S0 : Nat → Prop} {L : List Res} (h : St w0 S0 w L) (t : TypeId) (n : Nat) (z : Value) : St w0 S0 (w.alloc (.cells (madeCells #[z] n) t)) (ArrR w.heap.size t n (fun _ => z) :: L) := (h.made_row t n z).comm
section
variable {w0 w w' : World} {S0 : Nat → Prop} {C : BC} {A : Option Addr} {cap r sb : Nat} {rp : Nat → Nat} {Am : Option Addr} {cm : Nat} {Ah : Option Addr} {ch : Nat} {M now : Int} {hr : List (Int × Int)} {s : BS} {V : Nat → Nat → Value}
theorem rslot_hor {A2 : Option Addr} {nw cap2 : Nat} (hl : ¬ now < 4611686018427387904) :
    Calls Tryz.prog 66 #[.pointer (some ⟨r, 0, none⟩), .int .u64 now, .slice A2 nw cap2] w fun e w' => e = .returned (.tuple #[.int .i64 0, .int .i64 2]) ∧ w = w' := by
  have d1 : decide (4611686018427387904 ≤ now) = true := decide_eq_true (by omega)
  go_enter Tryz.func66, Tryz.ntmps66
  go_wp2_with fail
  go_ret2
  exact ⟨rfl, rfl⟩
theorem rslot_bad {A2 : Option Addr} {nw cap2 : Nat} {f : Nat → Int} (hl : now < 4611686018427387904) (c0 : w.cell? ⟨r, 0, none⟩ = some (.slice A C.n cap)) (hn : C.n ≤ 16) (hm : nw ≤ maxLen) (rd : Rd w A2 nw (fun j => .int .i64 (f j)))
    (hf : ¬ ∀ j, j < nw → 0 ≤ f j ∧ f j < C.n) :
    Calls Tryz.prog 66 #[.pointer (some ⟨r, 0, none⟩), .int .u64 now, .slice A2 nw cap2] w fun e w' => e = .returned (.tuple #[.int .i64 0, .int .i64 1]) ∧ Below w.heap.size w w' := by
  have d1 : decide (4611686018427387904 ≤ now) = false := decide_eq_false (by omega)
  unfold maxLen at hm
  obtain ⟨i0, h1, h2, h3⟩ := first_bad hf
  clear hf
  go_enter Tryz.func66, Tryz.ntmps66
  go_wp2_with fail
  go_loopw [8] (fun i wr => ∃ k q : Nat, k ≤ i0 ∧ i = .int .i64 k ∧ wr = w.drewN q) (fun i _ => nw - (intOf i).toNat)
  case atStart => exact ⟨0, 0, by omega, rfl, rfl⟩
  case round =>
    obtain ⟨k, q, hk, rfl, rfl⟩ := hrel
    obtain ⟨ib, off, rfl, hib, hcell⟩ := rd (by omega)
    have ck := hcell k (by omega)
    dsimp only at ck
    have i0' : (0 : Int) ≤ (k : Int) := by omega
    have i1' : (k : Int) < (nw : Int) := by omega
    by_cases hlt : k < i0
    · have hb := h3 k hlt
      obtain ⟨x, hx⟩ : ∃ x, f k = x := ⟨_, rfl⟩
      rw [hx] at hb ck
      have d2 : decide (x < 0) = false := decide_eq_false (by omega)
      have d3 : decide ((C.n : Int) ≤ x) = false := decide_eq_false (by omega)
      clear hcell hx h2 h3
      go_wp2_with fail
      go_quiet (fail)
      go_wp2
      go_roundw
      case rel => exact ⟨k + 1, _, by omega, by go_num, rfl⟩
      case measure => simp [intOf]; omega
    · obtain rfl : k = i0 := by omega
      obtain ⟨x, hx⟩ : ∃ x, f k = x := ⟨_, rfl⟩
      rw [hx] at h2 ck
      clear hcell hx h3
      by_cases hx0 : x < 0
      · have d2 : decide (x < 0) = true := decide_eq_true hx0
        clear h2
        go_wp2_with fail
        go_quiet (fail)
        go_wp2
        go_ret2
        exact ⟨rfl, below_drewN (below_drewN (Below.refl _ _) _) _⟩
      · have d2 : decide (x < 0) = false := decide_eq_false hx0
        have d3 : decide ((C.n : Int) ≤ x) = true := decide_eq_true (by omega)
        clear h2
        go_wp2_with fail
        go_quiet (fail)
        go_wp2
        go_ret2
        exact ⟨rfl, below_drewN (below_drewN (Below.refl _ _) _) _⟩
theorem rslot_late {A2 : Option Addr} {nw cap2 : Nat} {f : Nat → Int} (hl : now < 4611686018427387904) (hB : Blk w r 203 #[.slice A C.n cap, .int .u64 C.ph, .slice Am C.n cm, .slice (some ⟨sb, 0, none⟩) C.n C.n, .slice Ah hr.length ch])
    (hls : Lis w 240 2 (.slice Ah hr.length ch) hr.length (hc hr)) (ho : HOK C.ph s hr) (hlen : hr.length ≤ 200) (hn : C.n ≤ 16) (hm : nw ≤ maxLen) (rd : Rd w A2 nw (fun j => .int .i64 (f j)))
    (hf : ∀ j, j < nw → 0 ≤ f j ∧ f j < C.n) (hx : now < s.next) :
    Calls Tryz.prog 66 #[.pointer (some ⟨r, 0, none⟩), .int .u64 now, .slice A2 nw cap2] w fun e w' => e = .returned (.tuple #[.int .i64 0, .int .i64 1]) ∧ Below w.heap.size w w' := by
  have d1 : decide (4611686018427387904 ≤ now) = false := decide_eq_false (by omega)
  unfold maxLen at hm
  have c0 := hB.five.1
  have c1 := hB.five.2.1
  have c4 := hB.five.2.2.2.2
  have HL := Lib.hid hls
  have HO := Lib.hid ho
  clear hls ho hB
  go_enter Tryz.func66, Tryz.ntmps66
  go_wp2_with fail
  go_loopw [8] (fun i wr => ∃ k q : Nat, k ≤ nw ∧ i = .int .i64 k ∧ wr = w.drewN q) (fun i _ => nw - (intOf i).toNat)
  case atStart => exact ⟨0, 0, by omega, rfl, rfl⟩
  case round =>
    obtain ⟨k, q, hk, rfl, rfl⟩ := hrel
    by_cases hlt : k < nw
    · obtain ⟨ib, off, rfl, hib, hcell⟩ := rd (by omega)
      have ck := hcell k (by omega)
      dsimp only at ck
      have i0' : (0 : Int) ≤ (k : Int) := by omega
      have i1' : (k : Int) < (nw : Int) := by omega
      have hb := hf k hlt
      obtain ⟨x, hx⟩ : ∃ x, f k = x := ⟨_, rfl⟩
      rw [hx] at hb ck
      have d2 : decide (x < 0) = false := decide_eq_false (by omega)
      have d3 : decide ((C.n : Int) ≤ x) = false := decide_eq_false (by omega)
      clear hcell hx hf
      go_wp2_with fail
      go_quiet (fail)
      go_wp2
      go_roundw
      case rel => exact ⟨k + 1, _, by omega, by go_num, rfl⟩
      case measure => simp [intOf]; omega
    · clear hf rd
      by_cases hp : now < C.ph
      · have d2 : decide (now < C.ph) = true := decide_eq_true hp
        go_wp2_with fail
        go_quiet (fail)
        go_wp2
        go_ret2
        exact ⟨rfl, below_drewN (below_drewN (Below.refl _ _) _) _⟩
      · have d2 : decide (now < C.ph) = false := decide_eq_false hp
        cases hr with
        | nil => have := HO.out.emp rfl; omega
        | cons p t =>
          have htop := HO.out.top p t rfl
          obtain ⟨g, off, rfl, hcc⟩ := HL.out.reads.2.resolve_left (by simp)
          have x0 := hcc _ _ (hc_at (l := p :: t) (d := 0) rfl).1
          have e0 : (p :: t).length - 1 - 0 = t.length := by simp
          rw [e0] at x0
          have el : (p :: t).length = t.length + 1 := by simp
          rw [el] at c4 hlen
          have d3 : decide (now ≤ p.1) = true := decide_eq_true (by omega)
          have d4 : decide ((0 : Int) < ((t.length + 1 : Nat) : Int)) = true := decide_eq_true (by omega)
          have d5 : decide ((0 : Int) < (t.length : Int) + 1) = true := decide_eq_true (by omega)
          obtain ⟨q2, hq2⟩ : ∃ q2, t.length = q2 := ⟨_, rfl⟩
          rw [hq2] at c4 x0 hlen d4 d5
          obtain ⟨p1, p2⟩ := p
          dsimp only at x0 d3
          have i0' : (0 : Int) ≤ (q2 : Int) := by omega
          clear hcc htop e0 el hq2 HL HO
          go_wp2_with fail
          go_quiet (fail)
          go_wp2
          go_ret2
          exact ⟨rfl, below_drewN (below_drewN (Below.refl _ _) _) _⟩
end
end
section
set_option linter.unusedVariables false
set_option maxRecDepth 100000
set_option maxHeartbeats 1600000
theorem run_make_bools {P : Program} (t e : TypeId) (i : TypeInfo) (z : Value) (ht : P.underlying t = some (.slice e)) (hi : P.info? e = some i) (hz : i.zero = some z) (hz1 : z.cells = #[z]) (hs : i.size = 1) (n : Nat) (hb : i.bytes = 1) (hn : n ≤ 16) (W : World) :
    (Instr.makeSlice t (.int .i64 (n : Int)) (.int .i64 (n : Int))).run P W = .ok (.slice (some ⟨W.heap.size, 0, none⟩) n n) (W.alloc (.cells (madeCells #[z] n) e)) :=
  run_make_rowN t e i z ht hi hz hz1 hs .i64 .i64 n (by rw [hb]; omega) (by omega) W
section
variable {w0 w w' : World} {N : List Res} {C : BC} {cap r sb : Nat} {rp : Nat → Nat} {mg mo ib io cm : Nat} {Ah : Option Addr} {ch : Nat} {now : Int} {hr : List (Int × Int)} {s : BS} {V : Nat → Nat → Value}
theorem rslot_main {A2 : Option Addr} {nw cap2 kk : Nat} {f : Nat → Int} {v e0 : Int} {s' : BS} (H : St w0 None w (RL [] N C (some ⟨ib, io, none⟩) cap r sb rp (some ⟨mg, mo, none⟩) cm Ah ch now hr s)) (hC : C.OK) (rdm : RdM w0 (some ⟨ib, io, none⟩) C.n 4 V) (hV : MV C V) (hbs : s.OK C kk) (hkk : kk ≤ 190) (ho : HOK C.ph s hr) (hlen : hr.length ≤ 190)
    (hlf : ∀ j, j < C.n → 0 ≤ C.left s.ws j now) (hn0 : 0 ≤ now) (hl : now < 4611686018427387904) (hx : s.next ≤ now) (hm : nw ≤ maxLen) (rd : Rd w A2 nw (fun j => .int .i64 (f j))) (hf : ∀ j, j < nw → 0 ≤ f j ∧ f j < C.n) (hR : SlotR C s now true (wantB nw f) v e0 s') :
    Calls Tryz.prog 66 #[.pointer (some ⟨r, 0, none⟩), .int .u64 now, .slice A2 nw cap2] w fun e w' => e = .returned (.tuple #[.int .i64 v, .int .i64 e0]) ∧ ∃ Ah' ch', St w0 None w' (RL [] N C (some ⟨ib, io, none⟩) cap r sb rp (some ⟨mg, mo, none⟩) cm Ah' ch' now ((now, s'.who) :: hr) s') := by
  have d1 : decide (4611686018427387904 ≤ now) = false := decide_eq_false (by omega)
  unfold maxLen at hm
  have hn := hC.n16
  have HB := H.blk 0 rfl
  have c0 := HB.five.1
  have c1 := HB.five.2.1
  have c4 := HB.five.2.2.2.2
  have HLs := Lib.hid (H.lis 3 rfl).reads.2
  have HO := Lib.hid ho
  have HH := Lib.hid H
  have HR := Lib.hid hR
  have HBS := Lib.hid hbs
  have HLF := Lib.hid hlf
  obtain ⟨iB, hiB, hzB, hsB, hbB⟩ := info_parts Tryz.infoB
  have MK := Lib.hid (fun W => run_make_bools (P := Tryz.prog) 241 4 iB (.bool false) Tryz.underlying241 hiB hzB rfl hsB C.n hbB hn W)
  have hnx := hbs.next
  clear ho H hR hbs HB hiB hzB hsB hbB hlf
  go_enter Tryz.func66, Tryz.ntmps66
  go_wp2_with fail
  go_loopw [8] (fun i wr => ∃ k q : Nat, k ≤ nw ∧ i = .int .i64 k ∧ wr = w.drewN q) (fun i _ => nw - (intOf i).toNat)
  case atStart => exact ⟨0, 0, by omega, rfl, rfl⟩
  case round =>
    obtain ⟨k, q, hk, rfl, rfl⟩ := hrel
    by_cases hlt : k < nw
    · obtain ⟨bq, off, rfl, hib, hcell⟩ := rd (by omega)
      have ck := hcell k (by omega)
      dsimp only at ck
      have i0' : (0 : Int) ≤ (k : Int) := by omega
      have i1' : (k : Int) < (nw : Int) := by omega
      have hb := hf k hlt
      obtain ⟨x, hx⟩ : ∃ x, f k = x := ⟨_, rfl⟩
      rw [hx] at hb ck
      have d2 : decide (x < 0) = false := decide_eq_false (by omega)
      have d3 : decide ((C.n : Int) ≤ x) = false := decide_eq_false (by omega)
      clear hcell hx hf
      go_wp2_with fail
      go_quiet (fail)
      go_wp2
      go_roundw
      case rel => exact ⟨k + 1, _, by omega, by go_num, rfl⟩
      case measure => simp [intOf]; omega
    · obtain rfl : k = nw := by omega
      have d2 : decide (now < C.ph) = false := decide_eq_false (by omega)
      go_wp2_with fail
      go_cut [72] (fun y wx => y = .bool false ∧ ∃ q2 : Nat, wx = (w.drewN q).drewN q2)
      case first =>
        cases hr with
        | nil =>
          go_quiet (fail)
          go_wp2_with fail
          go_meet
          exact ⟨rfl, _, rfl⟩
        | cons p t =>
          have htop := HO.out.top p t rfl
          obtain ⟨g, off, rfl, hcc⟩ := HLs.out.resolve_left (by simp)
          have x0 := hcc _ _ (hc_at (l := p :: t) (d := 0) rfl).1
          have e0 : (p :: t).length - 1 - 0 = t.length := by simp
          rw [e0] at x0
          have el : (p :: t).length = t.length + 1 := by simp
          rw [el] at c4 hlen
          have d3 : decide (now ≤ p.1) = false := decide_eq_false (by omega)
          have d4 : decide ((0 : Int) < ((t.length + 1 : Nat) : Int)) = true := decide_eq_true (by omega)
          have d5 : decide ((0 : Int) < (t.length : Int) + 1) = true := decide_eq_true (by omega)
          obtain ⟨q2, hq2⟩ : ∃ q2, t.length = q2 := ⟨_, rfl⟩
          rw [hq2] at c4 x0 hlen d4 d5
          obtain ⟨p1, p2⟩ := p
          dsimp only at x0 d3
          have i0' : (0 : Int) ≤ (q2 : Int) := by omega
          clear hcc htop e0 el hq2 HLs HO HH
          go_quiet (fail)
          go_wp2_with fail
          go_meet
          exact ⟨rfl, _, rfl⟩
      case rest =>
      obtain ⟨rfl, q2, rfl⟩ := hcut
      have hbel : Below w.heap.size w ((w.drewN q).drewN q2) := below_drewN (below_drewN (Below.refl _ _) _) _
      have s2 := (HH.out.drewN q).drewN q2
      clear HH HLs c0 c1 c4 d2
      generalize World.drewN (w.drewN q) q2 = w2 at *
      have c0 := (s2.blk 0 rfl).five.1
      have s3 := s2.front_row 4 C.n (.bool false)
      have hbel3 := hbel.alloc hbel.size (.cells (madeCells #[.bool false] C.n) 4)
      have hwb : w.heap.size ≤ w2.heap.size := hbel.size
      have mk := MK.out
      go_wp2_with fail
      clear mk MK s2 c0
      generalize w2.heap.size = wb at *
      go_loopw [10] (fun i wr => ∃ j : Nat, j ≤ k ∧ i = .int .i64 j ∧ St w0 None wr (RL [ArrR wb 4 C.n (fun i => .bool (wantB j f i))] N C (some ⟨ib, io, none⟩) cap r sb rp (some ⟨mg, mo, none⟩) cm Ah ch now hr s) ∧ Below w.heap.size w wr) (fun i _ => k - (intOf i).toNat)
      case atStart => exact ⟨0, by omega, rfl, by rw [wantB_zero]; exact s3, hbel3⟩
      case round =>
        clear s3 hbel3 hbel
        obtain ⟨j, hj, rfl, sr, hbel⟩ := hrel
        by_cases hlt2 : j < k
        · obtain ⟨bq, off, rfl, hib, hcell⟩ := rd.below hbel (Nat.le_refl _) (by omega)
          have ck := hcell j hlt2
          dsimp only at ck
          obtain ⟨i, hi⟩ : ∃ i : Nat, f j = i := ⟨(f j).toNat, by have := hf j hlt2; omega⟩
          have hin : i < C.n := by have := hf j hlt2; omega
          rw [hi] at ck
          have s4 := (sr.arr_set 0 rfl hin (.bool true)).arr_like (V' := fun q => .bool (wantB (j + 1) f q)) 0 rfl (fun q hq => by rw [wantB_succ j f i hi]; dsimp only; split <;> rfl)
          have S4 : Hid (St w0 None _ (RL [ArrR wb 4 C.n (fun i => .bool (wantB (j + 1) f i))] N C (some ⟨ib, io, none⟩) cap r sb rp (some ⟨mg, mo, none⟩) cm Ah ch now hr s)) := Lib.hid s4
          have HBEL := Lib.hid (hbel.setCell (p := ⟨wb, i, none⟩) hwb (.bool true))
          have cm0 := sr.arr_cell 0 rfl hin
          have fm0 := sr.arr_frozen 0 rfl i
          have i0' : (0 : Int) ≤ (i : Int) := by omega
          have i1' : (i : Int) < (C.n : Int) := by omega
          clear hcell s4 hi sr hbel hf
          go_wp2
          go_roundw
          case rel => exact ⟨j + 1, by omega, by go_num, S4.out, HBEL.out⟩
          case measure => simp [intOf]; omega
        · obtain rfl : j = k := by omega
          obtain ⟨m, hm⟩ : ∃ m, m = wantB j f := ⟨_, rfl⟩
          rw [← hm] at sr HR
          have hf := 0
          clear hm hf rd hbel
          obtain ⟨q, hq⟩ : ∃ q : Nat → Bool, (fun i => m i && mayB C s.ws (s.who1 now) (s.row1 now) now i) = q := ⟨_, rfl⟩
          have HQD := Lib.hid hq
          clear hq
          have MT := Lib.hid (fun (wz : World) (h : St w0 None wz (RL [ArrR wb 4 C.n (fun i => .bool (m i))] N C (some ⟨ib, io, none⟩) cap r sb rp (some ⟨mg, mo, none⟩) cm Ah ch now hr s)) (j : Nat) (hj : j < C.n) => show wz.cell? ⟨mg, mo + j, none⟩ = some (.pointer (some ⟨rp j, 0, none⟩)) by
            obtain ⟨A', cap', hv, _, _, _, hcell⟩ := h.lis_cells 2 rfl
            injection hv with e1 _ e2
            obtain ⟨g, off, e3, hcc⟩ := hcell.resolve_left (by omega)
            rw [← e1] at e3
            injection e3 with e3; injection e3 with e4 e5; subst e4; subst e5
            exact hcc _ _ (mcs_at hj))
          go_wp2_with fail
          go_loopw [11, 12] (fun y i wr => ∃ j : Nat, j ≤ C.n ∧ i = .int .i64 j ∧ y = .int .i64 (fst q C.prio j) ∧ St w0 None wr (RL [ArrR wb 4 C.n (fun i => .bool (m i))] N C (some ⟨ib, io, none⟩) cap r sb rp (some ⟨mg, mo, none⟩) cm Ah ch now hr s)) (fun _ i _ => C.n - (intOf i).toNat)
          case atStart => exact ⟨0, by omega, rfl, rfl, sr⟩
          case round =>
            clear sr
            obtain ⟨j, hj, rfl, rfl, sr⟩ := hrel
            by_cases hlt : j < C.n
            · have cb0 := (sr.blk 1 rfl).five.1
              have cb2 := (sr.blk 1 rfl).five.2.2.1
              have cmt := MT.out _ sr j hlt
              have i0 : (0 : Int) ≤ (j : Int) := by omega
              have i1 : (j : Int) < (C.n : Int) := by omega
              have LF := Lib.hid (rb_left sr hlt hn0 hl)
              clear sr
              go_wp2_with fail
              refine LF.out.mono ?_
              rintro e w5 ⟨rfl, s5⟩
              clear LF cb0 cb2 cmt
              have cb0 := (s5.blk 1 rfl).five.1
              obtain ⟨_, _, ee, m0, m1, m2, m3⟩ := hV.at_ rdm s5.below hlt
              injection ee with ee; injection ee with ee1 ee2; subst ee1; subst ee2
              have s6 := s5.front 78 #[.int .i64 (C.prio j), .int .i64 (C.burst j), .int .u64 (C.B j), .int .u64 (C.P j)]
              go_wp2_with fail
              obtain ⟨pb, hpb⟩ : ∃ pb, w5.heap.size = pb := ⟨_, rfl⟩
              rw [hpb] at s6 ⊢
              have SR : Hid (St w0 None _ (RL [BlkR pb 78 #[.int .i64 (C.prio j), .int .i64 (C.burst j), .int .u64 (C.B j), .int .u64 (C.P j)], ArrR wb 4 C.n (fun i => .bool (m i))] N C (some ⟨ib, io, none⟩) cap r sb rp (some ⟨mg, mo, none⟩) cm Ah ch now hr s)) := Lib.hid s6
              clear hpb s6 s5 cb0 m0 m1 m2 m3
              generalize World.alloc w5 _ = w6 at *
              obtain ⟨p, PI, PO⟩ : ∃ p : World → Prop, (∀ wz, St w0 None wz (RL [BlkR pb 78 #[.int .i64 (C.prio j), .int .i64 (C.burst j), .int .u64 (C.B j), .int .u64 (C.P j)], ArrR wb 4 C.n (fun i => .bool (m i))] N C (some ⟨ib, io, none⟩) cap r sb rp (some ⟨mg, mo, none⟩) cm Ah ch now hr s) → p wz) ∧ (∀ wz, p wz → St w0 None wz (RL [BlkR pb 78 #[.int .i64 (C.prio j), .int .i64 (C.burst j), .int .u64 (C.B j), .int .u64 (C.P j)], ArrR wb 4 C.n (fun i => .bool (m i))] N C (some ⟨ib, io, none⟩) cap r sb rp (some ⟨mg, mo, none⟩) cm Ah ch now hr s)) := ⟨_, fun _ h => h, fun _ h => h⟩
              have u0 : ∀ u : Within p, u.w.cell? ⟨wb, j, none⟩ = some (.bool (m j)) := fun u => (PO _ u.h).arr_cell 1 rfl hlt
              have u1 : ∀ u : Within p, u.w.cell? ⟨pb, 1, none⟩ = some (.int .i64 (C.burst j)) := fun u => ((PO _ u.h).blk 0 rfl).four.2.1
              have u2 := 0
              have u3 := 0
              haveI : Nonempty (Within p) := ⟨⟨_, PI _ SR.out⟩⟩
              have RR := Lib.hid (fun (wz : World) (h : p wz) => (rrow (r := r) (j : Int) now wz ((PO _ h).blk 2 rfl).five.2.2.2.2 ((PO _ h).lis 5 rfl) (by omega) HO.out.bd ⟨hn0, by omega⟩).mono fun e w' (g : e = .returned (.int .i64 (run j now hr)) ∧ wz = w') => (⟨g.1, g.2 ▸ h⟩ : e = .returned (.int .i64 (run j now hr)) ∧ p w'))
              have hrun := run_now HO.out hx j
              have hlf0 := HLF.out j hlt
              have hbu := hC.burst j hlt
              cases hmj : m j with
              | false =>
                have HF := Lib.hid (fst_no (q := q) (prio := C.prio) (k := j) (by rw [← HQD.out]; simp [hmj]))
                rw [hmj] at u0
                clear hmj hrun
                go_wp2_with fail
                refine wp_region_in p (by kernel_rfl) (by kernel_rfl) (PI _ SR.out.drew) ?_
                repeat (go_big_quiet_step ((go_at_call 130; exact in_call (p := p) (RR.out _ (Within.h (p := p) _)))))
                refine wpQuiet_nil ?_
                rintro wq ⟨⟨wq2, sq⟩, hwq⟩
                replace hwq : wq = wq2 := hwq
                subst hwq
                have s7 : St w0 None wq (RL [ArrR wb 4 C.n (fun i => .bool (m i))] N C (some ⟨ib, io, none⟩) cap r sb rp (some ⟨mg, mo, none⟩) cm Ah ch now hr s) := (PO _ sq).drop 0 (by simp)
                have S7 := Lib.hid s7
                clear sq s7 u0 u1 u2 u3 SR
                go_wp2
                go_roundw
                case rel => exact ⟨j + 1, by omega, by go_num, by rw [HF.out], S7.out⟩
                case measure => simp [intOf]; omega
              | true =>
                rw [hmj] at u0
                obtain ⟨lf, hlf⟩ : ∃ lf, C.left s.ws j now = lf := ⟨_, rfl⟩
                rw [hlf] at hlf0 ⊢
                by_cases hl0 : lf = 0
                · have HF := Lib.hid (fst_no (q := q) (prio := C.prio) (k := j) (by rw [← HQD.out]; simp [mayB, hlf, hl0]))
                  have dl : (lf == 0) = true := beq_iff_eq.2 hl0
                  clear hmj hrun hlf
                  subst hl0
                  go_wp2_with fail
                  refine wp_region_in p (by kernel_rfl) (by kernel_rfl) (PI _ SR.out.drew) ?_
                  repeat (go_big_quiet_step ((go_at_call 130; exact in_call (p := p) (RR.out _ (Within.h (p := p) _)))))
                  refine wpQuiet_nil ?_
                  rintro wq ⟨⟨wq2, sq⟩, hwq⟩
                  replace hwq : wq = wq2 := hwq
                  subst hwq
                  have s7 : St w0 None wq (RL [ArrR wb 4 C.n (fun i => .bool (m i))] N C (some ⟨ib, io, none⟩) cap r sb rp (some ⟨mg, mo, none⟩) cm Ah ch now hr s) := (PO _ sq).drop 0 (by simp)
                  have S7 := Lib.hid s7
                  clear sq s7 u0 u1 u2 u3 SR
                  go_wp2
                  go_roundw
                  case rel => exact ⟨j + 1, by omega, by go_num, by rw [HF.out], S7.out⟩
                  case measure => simp [intOf]; omega
                · have dl : (lf == 0) = false := beq_eq_false_iff_ne.2 hl0
                  have dl2 : decide (0 < lf) = true := decide_eq_true (by omega)
                  by_cases hb0 : 0 < C.burst j
                  · have db : decide (0 < C.burst j) = true := decide_eq_true hb0
                    by_cases hge : C.burst j ≤ run j now hr
                    · have dg : decide (C.burst j ≤ (run j now hr : Int)) = true := decide_eq_true hge
                      have hwr : s.who1 now = j ∧ C.burst j ≤ s.row1 now := by
                        rw [hrun] at hge
                        by_cases e : s.who1 now = j
                        · rw [if_pos e] at hge; exact ⟨e, hge⟩
                        · rw [if_neg e] at hge; omega
                      have HF := Lib.hid (fst_no (q := q) (prio := C.prio) (k := j) (by rw [← HQD.out]; simp [mayB, hb0, hwr.1, hwr.2]))
                      generalize (run j now hr : Int) = rn at *
                      clear hmj hrun hlf hwr
                      go_wp2_with fail
                      refine wp_region_in p (by kernel_rfl) (by kernel_rfl) (PI _ SR.out.drew) ?_
                      repeat (go_big_quiet_step ((go_at_call 130; exact in_call (p := p) (RR.out _ (Within.h (p := p) _)))))
                      refine wpQuiet_nil ?_
                      rintro wq ⟨⟨wq2, sq⟩, hwq⟩
                      replace hwq : wq = wq2 := hwq
                      subst hwq
                      have s7 : St w0 None wq (RL [ArrR wb 4 C.n (fun i => .bool (m i))] N C (some ⟨ib, io, none⟩) cap r sb rp (some ⟨mg, mo, none⟩) cm Ah ch now hr s) := (PO _ sq).drop 0 (by simp)
                      have S7 := Lib.hid s7
                      clear sq s7 u0 u1 u2 u3 SR
                      go_wp2
                      go_roundw
                      case rel => exact ⟨j + 1, by omega, by go_num, by rw [HF.out], S7.out⟩
                      case measure => simp [intOf]; omega
                    · have dg : decide (C.burst j ≤ (run j now hr : Int)) = false := decide_eq_false hge
                      have HQ := Lib.hid (show q j = true by
                        rw [← HQD.out]
                        simp only [hmj, Bool.true_and, mayB, hlf, dl2, Bool.and_true, Bool.not_eq_true', Bool.and_eq_false_iff, decide_eq_false_iff_not]
                        right
                        by_cases e : s.who1 now = j
                        · right; rw [hrun, if_pos e] at hge; exact hge
                        · left; exact e)
                      generalize (run j now hr : Int) = rn at *
                      clear hmj hrun hlf hge
                      go_wp2_with fail
                      refine wp_region_in p (by kernel_rfl) (by kernel_rfl) (PI _ SR.out.drew) ?_
                      repeat (go_big_quiet_step ((go_at_call 130; exact in_call (p := p) (RR.out _ (Within.h (p := p) _)))))
                      refine wpQuiet_nil ?_
                      rintro wq ⟨⟨wq2, sq⟩, hwq⟩
                      replace hwq : wq = wq2 := hwq
                      subst hwq
                      have s7 : St w0 None wq (RL [BlkR pb 78 #[.int .i64 (C.prio j), .int .i64 (C.burst j), .int .u64 (C.B j), .int .u64 (C.P j)], ArrR wb 4 C.n (fun i => .bool (m i))] N C (some ⟨ib, io, none⟩) cap r sb rp (some ⟨mg, mo, none⟩) cm Ah ch now hr s) := PO _ sq
                      clear sq u0 u1 u2 u3 SR
                      obtain ⟨p0, p1, p2, p3⟩ := (s7.blk 0 rfl).four
                      have cb0 := (s7.blk 2 rfl).five.1
                      have hfst := fst_bd q C.prio j
                      by_cases hr0 : fst q C.prio j = -1
                      · have HF := Lib.hid (fst_yes (q := q) (prio := C.prio) (k := j) HQ.out (Or.inl hr0))
                        have e0 : decide (fst q C.prio j < 0) = true := decide_eq_true (by omega)
                        generalize fst q C.prio j = rr at *
                        have SQ := Lib.hid s7
                        clear hr0 s7
                        go_wp2_with fail
                        go_quiet (fail)
                        have s8 : St w0 None _ (RL [ArrR wb 4 C.n (fun i => .bool (m i))] N C (some ⟨ib, io, none⟩) cap r sb rp (some ⟨mg, mo, none⟩) cm Ah ch now hr s) := (SQ.out.drewN nq).drop 0 (by simp)
                        have S8 := Lib.hid s8
                        clear s8
                        go_wp2
                        go_roundw
                        case rel => exact ⟨j + 1, by omega, by go_num, by rw [HF.out], S8.out⟩
                        case measure => simp [intOf]; omega
                      · obtain ⟨c, hc⟩ : ∃ c : Nat, fst q C.prio j = c := ⟨(fst q C.prio j).toNat, by omega⟩
                        have hcn : c < C.n := by omega
                        obtain ⟨_, _, ee, m0, _, _, _⟩ := hV.at_ rdm s7.below hcn
                        injection ee with ee; injection ee with ee1 ee2; subst ee1; subst ee2
                        have i2 : (0 : Int) ≤ (c : Int) := by omega
                        have i3 : (c : Int) < (C.n : Int) := by omega
                        have e0 : decide ((c : Int) < 0) = false := decide_eq_false (by omega)
                        have SQ := Lib.hid s7
                        have HCC := Lib.hid hc
                        by_cases hp : C.prio j < C.prio c
                        · have HF := Lib.hid (fst_yes (q := q) (prio := C.prio) (k := j) HQ.out (Or.inr (by rw [hc]; simpa using hp)))
                          have d2 : decide (C.prio j < C.prio c) = true := decide_eq_true hp
                          rw [hc]
                          clear hr0 hc hfst hp s7
                          go_wp2_with fail
                          go_quiet (fail)
                          have s8 : St w0 None _ (RL [ArrR wb 4 C.n (fun i => .bool (m i))] N C (some ⟨ib, io, none⟩) cap r sb rp (some ⟨mg, mo, none⟩) cm Ah ch now hr s) := (SQ.out.drewN nq).drop 0 (by simp)
                          have S8 := Lib.hid s8
                          clear s8
                          go_wp2
                          go_roundw
                          case rel => exact ⟨j + 1, by omega, by go_num, by rw [HF.out], S8.out⟩
                          case measure => simp [intOf]; omega
                        · have HF := Lib.hid (fst_no (q := q) (prio := C.prio) (k := j) (by rw [hc]; rintro ⟨_, h | h⟩; omega; simp at h; omega))
                          have d2 : decide (C.prio j < C.prio c) = false := decide_eq_false hp
                          rw [hc]
                          clear hr0 hc hfst hp s7
                          go_wp2_with fail
                          go_quiet (fail)
                          have s8 : St w0 None _ (RL [ArrR wb 4 C.n (fun i => .bool (m i))] N C (some ⟨ib, io, none⟩) cap r sb rp (some ⟨mg, mo, none⟩) cm Ah ch now hr s) := (SQ.out.drewN nq).drop 0 (by simp)
                          have S8 := Lib.hid s8
                          clear s8
                          go_wp2
                          go_roundw
                          case rel => exact ⟨j + 1, by omega, by go_num, by rw [HF.out, HCC.out], S8.out⟩
                          case measure => simp [intOf]; omega
                  · have db : decide (0 < C.burst j) = false := decide_eq_false hb0
                    have HQ := Lib.hid (show q j = true by
                      rw [← HQD.out]
                      simp [hmj, mayB, hlf, dl2, db])
                    clear hmj hrun hlf
                    go_wp2_with fail
                    refine wp_region_in p (by kernel_rfl) (by kernel_rfl) (PI _ SR.out.drew) ?_
                    repeat (go_big_quiet_step ((go_at_call 130; exact in_call (p := p) (RR.out _ (Within.h (p := p) _)))))
                    refine wpQuiet_nil ?_
                    rintro wq ⟨⟨wq2, sq⟩, hwq⟩
                    replace hwq : wq = wq2 := hwq
                    subst hwq
                    have s7 : St w0 None wq (RL [BlkR pb 78 #[.int .i64 (C.prio j), .int .i64 (C.burst j), .int .u64 (C.B j), .int .u64 (C.P j)], ArrR wb 4 C.n (fun i => .bool (m i))] N C (some ⟨ib, io, none⟩) cap r sb rp (some ⟨mg, mo, none⟩) cm Ah ch now hr s) := PO _ sq
                    clear sq u0 u1 u2 u3 SR
                    obtain ⟨p0, p1, p2, p3⟩ := (s7.blk 0 rfl).four
                    have cb0 := (s7.blk 2 rfl).five.1
                    have hfst := fst_bd q C.prio j
                    by_cases hr0 : fst q C.prio j = -1
                    · have HF := Lib.hid (fst_yes (q := q) (prio := C.prio) (k := j) HQ.out (Or.inl hr0))
                      have e0 : decide (fst q C.prio j < 0) = true := decide_eq_true (by omega)
                      generalize fst q C.prio j = rr at *
                      have SQ := Lib.hid s7
                      clear hr0 s7
                      go_wp2_with fail
                      go_quiet (fail)
                      have s8 : St w0 None _ (RL [ArrR wb 4 C.n (fun i => .bool (m i))] N C (some ⟨ib, io, none⟩) cap r sb rp (some ⟨mg, mo, none⟩) cm Ah ch now hr s) := (SQ.out.drewN nq).drop 0 (by simp)
                      have S8 := Lib.hid s8
                      clear s8
                      go_wp2
                      go_roundw
                      case rel => exact ⟨j + 1, by omega, by go_num, by rw [HF.out], S8.out⟩
                      case measure => simp [intOf]; omega
                    · obtain ⟨c, hc⟩ : ∃ c : Nat, fst q C.prio j = c := ⟨(fst q C.prio j).toNat, by omega⟩
                      have hcn : c < C.n := by omega
                      obtain ⟨_, _, ee, m0, _, _, _⟩ := hV.at_ rdm s7.below hcn
                      injection ee with ee; injection ee with ee1 ee2; subst ee1; subst ee2
                      have i2 : (0 : Int) ≤ (c : Int) := by omega
                      have i3 : (c : Int) < (C.n : Int) := by omega
                      have e0 : decide ((c : Int) < 0) = false := decide_eq_false (by omega)
                      have SQ := Lib.hid s7
                      have HCC := Lib.hid hc
                      by_cases hp : C.prio j < C.prio c
                      · have HF := Lib.hid (fst_yes (q := q) (prio := C.prio) (k := j) HQ.out (Or.inr (by rw [hc]; simpa using hp)))
                        have d2 : decide (C.prio j < C.prio c) = true := decide_eq_true hp
                        rw [hc]
                        clear hr0 hc hfst hp s7
                        go_wp2_with fail
                        go_quiet (fail)
                        have s8 : St w0 None _ (RL [ArrR wb 4 C.n (fun i => .bool (m i))] N C (some ⟨ib, io, none⟩) cap r sb rp (some ⟨mg, mo, none⟩) cm Ah ch now hr s) := (SQ.out.drewN nq).drop 0 (by simp)
                        have S8 := Lib.hid s8
                        clear s8
                        go_wp2
                        go_roundw
                        case rel => exact ⟨j + 1, by omega, by go_num, by rw [HF.out], S8.out⟩
                        case measure => simp [intOf]; omega
                      · have HF := Lib.hid (fst_no (q := q) (prio := C.prio) (k := j) (by rw [hc]; rintro ⟨_, h | h⟩; omega; simp at h; omega))
                        have d2 : decide (C.prio j < C.prio c) = false := decide_eq_false hp
                        rw [hc]
                        clear hr0 hc hfst hp s7
                        go_wp2_with fail
                        go_quiet (fail)
                        have s8 : St w0 None _ (RL [ArrR wb 4 C.n (fun i => .bool (m i))] N C (some ⟨ib, io, none⟩) cap r sb rp (some ⟨mg, mo, none⟩) cm Ah ch now hr s) := (SQ.out.drewN nq).drop 0 (by simp)
                        have S8 := Lib.hid s8
                        clear s8
                        go_wp2
                        go_roundw
                        case rel => exact ⟨j + 1, by omega, by go_num, by rw [HF.out, HCC.out], S8.out⟩
                        case measure => simp [intOf]; omega
            · obtain rfl : j = C.n := by omega
              obtain ⟨bst, hbst⟩ : ∃ bst, fst q C.prio C.n = bst := ⟨_, rfl⟩
              rw [hbst]
              have hbd := fst_bd q C.prio C.n
              rw [hbst] at hbd
              have hbe : best C s now m = bst := by rw [← hbst]; unfold best; rw [HQD.out]
              have s4 : St w0 None wr (RL [ArrR wb 4 C.n (fun i => .bool (m i))] N C (some ⟨ib, io, none⟩) cap r sb rp (some ⟨mg, mo, none⟩) cm Ah ch now hr { s with st := stlK s.st m bst 0 }) := by rw [stlK_zero]; exact sr
              have HBE := Lib.hid hbe
              have HQ2 := Lib.hid (fun (h : 0 ≤ bst) => show q bst.toNat = true from fst_q (k := C.n) (by rw [hbst]; omega))
              have hstb := HBS.out.st
              have cb0 := (s4.blk 1 rfl).five.1
              clear sr hbst hbe MT
              go_wp2_with fail
              go_loopw [16] (fun y wx => ∃ i : Nat, i ≤ C.n ∧ y = .int .i64 i ∧ St w0 None wx (RL [ArrR wb 4 C.n (fun i => .bool (m i))] N C (some ⟨ib, io, none⟩) cap r sb rp (some ⟨mg, mo, none⟩) cm Ah ch now hr { s with st := stlK s.st m bst i })) (fun y _ => C.n - (intOf y).toNat)
              case atStart => exact ⟨0, by omega, rfl, s4⟩
              case round =>
                clear s4 cb0
                obtain ⟨i, hi, rfl, sr⟩ := hrel
                by_cases hlt : i < C.n
                · have cm0 := sr.arr_cell 0 rfl hlt
                  have cb0 := (sr.blk 1 rfl).five.1
                  have cb3 := (sr.blk 1 rfl).five.2.2.2.1
                  have cs0 := sr.arr_cell 3 rfl hlt
                  have fs0 := sr.arr_frozen 3 rfl i
                  dsimp only at cs0
                  rw [stlK_at] at cs0
                  have i0 : (0 : Int) ≤ (i : Int) := by omega
                  have i1 : (i : Int) < (C.n : Int) := by omega
                  have hbi := hstb i hlt
                  cases hmi : m i with
                  | true =>
                    rw [hmi] at cm0
                    by_cases hv : (i : Int) = bst
                    · have hS := Lib.hid (show St w0 None wr (RL [ArrR wb 4 C.n (fun i => .bool (m i))] N C (some ⟨ib, io, none⟩) cap r sb rp (some ⟨mg, mo, none⟩) cm Ah ch now hr { s with st := stlK s.st m bst (i + 1) }) by rw [← stlK_no (fun h => h.2 hv)]; exact sr)
                      have d2 : ((i : Int) != bst) = false := by simp [bne, hv]
                      clear hmi hv sr
                      go_wp2
                      go_roundw
                      case rel => exact ⟨i + 1, by omega, by go_num, hS.out⟩
                      case measure => simp [intOf]; omega
                    · have h1 := sr.arr_set 3 rfl hlt (.int .i64 (s.st i + 1))
                      have h2 := h1.arr_like (V' := fun q => .int .i64 (stlK s.st m bst (i + 1) q)) 3 rfl (fun q hq => by rw [← stlK_yes hmi hv]; unfold upd; split <;> rfl)
                      have hS : Hid (St w0 None _ (RL [ArrR wb 4 C.n (fun i => .bool (m i))] N C (some ⟨ib, io, none⟩) cap r sb rp (some ⟨mg, mo, none⟩) cm Ah ch now hr { s with st := stlK s.st m bst (i + 1) })) := Lib.hid h2
                      have d2 : ((i : Int) != bst) = true := by simp [bne, hv]
                      clear hmi hv sr h1 h2
                      go_wp2
                      go_roundw
                      case rel => exact ⟨i + 1, by omega, by go_num, hS.out⟩
                      case measure => simp [intOf]; omega
                  | false =>
                    rw [hmi] at cm0
                    have hS := Lib.hid (show St w0 None wr (RL [ArrR wb 4 C.n (fun i => .bool (m i))] N C (some ⟨ib, io, none⟩) cap r sb rp (some ⟨mg, mo, none⟩) cm Ah ch now hr { s with st := stlK s.st m bst (i + 1) }) by rw [← stlK_no (fun h => by rw [hmi] at h; cases h.1)]; exact sr)
                    clear hmi sr
                    go_wp2
                    go_roundw
                    case rel => exact ⟨i + 1, by omega, by go_num, hS.out⟩
                    case measure => simp [intOf]; omega
                · obtain rfl : i = C.n := by omega
                  have s5 : St w0 None wr (RL [] N C (some ⟨ib, io, none⟩) cap r sb rp (some ⟨mg, mo, none⟩) cm Ah ch now hr { s with st := stl s.st m bst }) := (sr.arr_like (V' := fun q => .int .i64 (stl s.st m bst q)) 3 rfl (fun q hq => by dsimp only; rw [stlK_end hq])).drop 0 (by simp)
                  have HMT := Lib.hid (fun (wz : World) (Ah' : Option Addr) (ch' : Nat) (hr' : List (Int × Int)) (h : St w0 None wz (RL [] N C (some ⟨ib, io, none⟩) cap r sb rp (some ⟨mg, mo, none⟩) cm Ah' ch' now hr' { s with st := stl s.st m bst })) (j : Nat) (hj : j < C.n) => show wz.cell? ⟨mg, mo + j, none⟩ = some (.pointer (some ⟨rp j, 0, none⟩)) by
                    obtain ⟨A', cap', hv, _, _, _, hcell⟩ := h.lis_cells 1 rfl
                    injection hv with e1 _ e2
                    obtain ⟨g, off, e3, hcc⟩ := hcell.resolve_left (by omega)
                    rw [← e1] at e3
                    injection e3 with e3; injection e3 with e4 e5; subst e4; subst e5
                    exact hcc _ _ (mcs_at hj))
                  obtain ⟨iH, hiH, hzH, hsH, hbH⟩ := info_parts Tryz.infoHad
                  have hRR := HR.out
                  have hbee := HBE.out
                  clear sr HR HBE
                  rcases hRR with ⟨h, _⟩ | ⟨_, h, _⟩ | ⟨_, _, _, hb, rfl, rfl, hs'⟩ | ⟨_, _, _, b, hbn, hb, rfl, rfl, hs'⟩
                  · exact absurd hl h
                  · exact absurd ⟨rfl, hx⟩ h
                  · obtain rfl : bst = -1 := by rw [← hbee]; exact hb
                    have HS' := Lib.hid hs'
                    clear hbee hb hs' HQ2 HMT
                    have cb0 := (s5.blk 0 rfl).five.1
                    have cb4 := (s5.blk 0 rfl).five.2.2.2.2
                    have s6 := s5.alloc (.cells #[.int .u64 now, .int .i64 (-1)] 240)
                    have hl6 := s6.lis 3 rfl
                    have hr6 := rds_box2 wr 240 (.int .u64 now) (.int .i64 (-1))
                    clear s5
                    go_wp2_with (at_builtin; refine wpList_lis rfl (.tmp 189) (.tmp 193) 201 rfl 240 iH (.agg #[.int .u64 0, .int .i64 0]) 2 16 Tryz.underlying201 hiH hzH hsH hbH rfl (by decide) _ _ _ rfl hl6 (some ⟨wr.heap.size, 0, none⟩) 1 1 [.int .u64 now, .int .i64 (-1)] rfl hr6 (by simp [Value.oneCell']) (by unfold maxLen; omega) (by omega) ?_; intro B8 cap8 w8 hl8 hg8 hat8; have s8 := s6.lis_put 3 rfl hl8 hg8 hat8; have cb8 := (s8.blk 0 rfl).five.2.2.2.2; have fb8 := (s8.blk 0 rfl).frozen 4; have s9 : St w0 None (w8.setCell ⟨r, 4, none⟩ (.slice B8 (hr.length + 1) cap8)) (RL [] N C (some ⟨ib, io, none⟩) cap r sb rp (some ⟨mg, mo, none⟩) cm B8 cap8 now ((now, -1) :: hr) { s with st := stl s.st m (-1) }) := s8.set_ 0 rfl 4 (.slice B8 (hr.length + 1) cap8); have cm9 := (s9.blk 0 rfl).five.2.2.1; have S9 := Lib.hid s9; clear hl8 hg8 hat8 s8 s9 s6 hl6 hr6)
                    go_ret2
                    exact ⟨rfl, B8, cap8, by rw [HS'.out]; exact S9.out⟩
                  · obtain rfl : bst = (b : Int) := by rw [← hbee]; exact hb
                    have HS' := Lib.hid hs'
                    have hq := HQ2.out (by omega)
                    rw [show ((b : Int)).toNat = b by omega, ← HQD.out] at hq
                    simp only [Bool.and_eq_true] at hq
                    have hleft : 0 < C.left s.ws b now := by have := hq.2; unfold mayB at this; simp at this; exact this.2
                    have i0 : (0 : Int) ≤ (b : Int) := by omega
                    have i1 : (b : Int) < (C.n : Int) := by omega
                    have e0 : decide ((b : Int) < 0) = false := decide_eq_false (by omega)
                    clear hbee hb hs' HQ2 hq
                    have cb0 := (s5.blk 0 rfl).five.1
                    have cb4 := (s5.blk 0 rfl).five.2.2.2.2
                    have s6 := s5.alloc (.cells #[.int .u64 now, .int .i64 ((b : Int))] 240)
                    have hl6 := s6.lis 3 rfl
                    have hr6 := rds_box2 wr 240 (.int .u64 now) (.int .i64 ((b : Int)))
                    clear s5
                    go_wp2_with (at_builtin; refine wpList_lis rfl (.tmp 189) (.tmp 193) 201 rfl 240 iH (.agg #[.int .u64 0, .int .i64 0]) 2 16 Tryz.underlying201 hiH hzH hsH hbH rfl (by decide) _ _ _ rfl hl6 (some ⟨wr.heap.size, 0, none⟩) 1 1 [.int .u64 now, .int .i64 ((b : Int))] rfl hr6 (by simp [Value.oneCell']) (by unfold maxLen; omega) (by omega) ?_; intro B8 cap8 w8 hl8 hg8 hat8; have s8 := s6.lis_put 3 rfl hl8 hg8 hat8; have cb8 := (s8.blk 0 rfl).five.2.2.2.2; have fb8 := (s8.blk 0 rfl).frozen 4; have s9 : St w0 None (w8.setCell ⟨r, 4, none⟩ (.slice B8 (hr.length + 1) cap8)) (RL [] N C (some ⟨ib, io, none⟩) cap r sb rp (some ⟨mg, mo, none⟩) cm B8 cap8 now ((now, (b : Int)) :: hr) { s with st := stl s.st m ((b : Int)) }) := s8.set_ 0 rfl 4 (.slice B8 (hr.length + 1) cap8); have cm9 := (s9.blk 0 rfl).five.2.2.1; have cx9 := HMT.out _ _ _ _ s9 b hbn;have S9 := Lib.hid s9; clear hl8 hg8 hat8 s8 s9 s6 hl6 hr6)
                    refine (rb_take S9.out hbn hn0 hl (by have := HBS.out.len b hbn; show (s.ws b).length ≤ 200; omega) hleft).mono ?_
                    rintro e w10 ⟨rfl, s10⟩
                    have S10 := Lib.hid s10
                    clear s10
                    go_wp2_with fail
                    go_ret2
                    exact ⟨rfl, B8, cap8, by rw [HS'.out]; exact S10.out⟩

end
end
section
set_option linter.unusedVariables false
set_option maxRecDepth 100000
set_option maxHeartbeats 800000
section
variable {w0 w w' : World} {N : List Res} {C : BC} {cap r sb : Nat} {rp : Nat → Nat} {A Am : Option Addr} {cm : Nat} {Ah : Option Addr} {ch : Nat} {now : Int} {hr : List (Int × Int)} {s : BS} {V : Nat → Nat → Value}
theorem left_pos {i : Nat} {S0 : Nat → Prop} (H : St w0 S0 w (RL [] N C A cap r sb rp Am cm Ah ch now hr s)) (hi : i < C.n) : 0 ≤ C.left s.ws i now := by
  obtain ⟨S, M, hN, ho, _⟩ := H.get _ (fam_at2 _ _ _ hi)
  have := ho.most (C.K i now)
  unfold BC.left; omega
theorem RSlot_o {A2 : Option Addr} {nw cap2 kk q : Nat} {f : Nat → Int} (H : St w0 None w (RBusR C A cap r sb rp q s :: N)) (hC : C.OK) (rdm : RdM w0 A C.n 4 V) (hV : MV C V) (hbs : s.OK C kk) (hkk : kk ≤ 150) (hq : q ≤ 150) (hn0 : 0 ≤ now) (hm : nw ≤ maxLen) (rd : Rd w A2 nw (fun j => .int .i64 (f j)))
    {v e0 : Int} {s' : BS} (hR : SlotR C s now (okB nw f C.n) (wantB nw f) v e0 s') :
    Calls Tryz.prog 66 #[.pointer (some ⟨r, 0, none⟩), .int .u64 now, .slice A2 nw cap2] w fun e w' => e = .returned (.tuple #[.int .i64 v, .int .i64 e0]) ∧ St w0 None w' (RBusR C A cap r sb rp (q + 1) s' :: N) := by
  obtain ⟨hr, Am, cm, Ah, ch, ho, hlen, s1⟩ := rb_open H
  have hB := s1.blk 0 rfl
  have grow : ∀ w', St w0 None w' (RBusR C A cap r sb rp q s :: N) → St w0 None w' (RBusR C A cap r sb rp (q + 1) s :: N) := fun w' h => h.weak 0 rfl (RBusR.ok _ _ _ _ _ _ _ _) fun S ⟨hr, Am, cm, Ah, ch, h1, h2, h3⟩ => ⟨hr, Am, cm, Ah, ch, h1, by omega, h3⟩
  by_cases hl : now < 4611686018427387904
  · by_cases hf : ∀ j, j < nw → 0 ≤ f j ∧ f j < C.n
    · have e1 : okB nw f C.n = true := decide_eq_true hf
      rw [e1] at hR
      by_cases hx : s.next ≤ now
      · have h1 := hC.n1
        have s2 := rb_later s1 hx
        obtain ⟨ib, io, rfl, _⟩ := rdm (by omega)
        obtain ⟨A', cap', hv, _, _, _, hcell⟩ := s2.lis_cells 1 rfl
        injection hv with e2 _ e3
        obtain ⟨mg, mo, e4, _⟩ := hcell.resolve_left (by omega)
        rw [e4] at e2
        subst e2
        obtain ⟨hr', g1, g2, g3, g4⟩ := hok_next ho hn0 hR
        refine (rslot_main s2 hC rdm hV hbs (by omega) ho (by omega) (fun j hj => left_pos s2 hj) hn0 hl hx hm rd hf hR).mono ?_
        rintro e w' ⟨he, Ah', ch', hs⟩
        refine ⟨he, rb_close hs ?_ ?_ ?_⟩
        · rcases hR with ⟨h, _⟩ | ⟨_, h, _⟩ | ⟨_, _, _, _, _, _, rfl⟩ | ⟨_, _, _, b, _, _, _, _, rfl⟩
          · exact absurd hl h
          · exact absurd ⟨rfl, hx⟩ h
          · show now ≤ now + 1; omega
          · show now ≤ now + 1; omega
        · rw [← g3 (by
            rcases hR with ⟨h, _⟩ | ⟨_, h, _⟩ | ⟨_, _, _, _, _, rfl, _⟩ | ⟨_, _, _, b, _, _, _, rfl, _⟩
            · exact absurd hl h
            · exact absurd ⟨rfl, hx⟩ h
            · omega
            · omega)]
          exact g1
        · simp; omega
      · obtain ⟨rfl, rfl, rfl⟩ : v = 0 ∧ e0 = 1 ∧ s' = s := by
          rcases hR with ⟨h, _⟩ | ⟨_, _, h⟩ | ⟨_, _, h, _⟩ | ⟨_, _, h, _⟩
          · exact absurd hl h
          · exact h
          · exact absurd h hx
          · exact absurd h hx
        exact (rslot_late hl hB (s1.lis 3 rfl) ho (by omega) hC.n16 hm rd hf (by omega)).mono fun e w' ⟨he, hb⟩ => ⟨he, grow _ (H.stay hb)⟩
    · have e1 : okB nw f C.n = false := decide_eq_false hf
      rw [e1] at hR
      obtain ⟨rfl, rfl, rfl⟩ : v = 0 ∧ e0 = 1 ∧ s' = s := by
        rcases hR with ⟨h, _⟩ | ⟨_, _, h⟩ | ⟨_, h, _⟩ | ⟨_, h, _⟩
        · exact absurd hl h
        · exact h
        · cases h
        · cases h
      exact (rslot_bad hl hB.five.1 hC.n16 hm rd hf).mono fun e w' ⟨he, hb⟩ => ⟨he, grow _ (H.stay hb)⟩
  · obtain ⟨rfl, rfl, rfl⟩ : v = 0 ∧ e0 = 2 ∧ s' = s := by
      rcases hR with ⟨_, h⟩ | ⟨h, _⟩ | ⟨h, _⟩ | ⟨h, _⟩
      · exact h
      all_goals exact absurd h hl
    exact (rslot_hor hl).mono fun e w' ⟨he, hb⟩ => ⟨he, grow _ (hb ▸ H)⟩
end
end
section
set_option linter.unusedVariables false
set_option maxRecDepth 100000
set_option maxHeartbeats 800000
theorem Tryz.infoRM : (Tryz.prog.info? 204).map (fun i => (i.zero, i.size, i.bytes)) = some (some (.pointer none), 1, 8) := by kernel_rfl
theorem mcs_snoc (rp : Nat → Nat) (k x : Nat) : mcs (upd rp k x) (k + 1) = mcs rp k ++ [.pointer (some ⟨x, 0, none⟩)] := by
  unfold mcs
  rw [List.range_succ, List.map_append]
  congr 1
  · exact List.map_congr_left fun i hi => by
      have : i < k := by simpa using hi
      simp [upd, show ¬ i = k by omega]
  · simp [upd]
section
variable {w0 w w' : World} {S0 : Nat → Prop} {L : List Res} {C : BC} {A : Option Addr} {cap : Nat} {V : Nat → Nat → Value}
abbrev NL (C : BC) (A : Option Addr) (cap r sb : Nat) (rp : Nat → Nat) (Am : Option Addr) (cm k : Nat) : List Res :=
  [BlkR r 203 #[.slice A C.n cap, .int .u64 C.ph, .slice Am k cm, .slice (some ⟨sb, 0, none⟩) C.n C.n, .slice none 0 0], LisR 204 1 (.slice Am k cm) k (mcs rp k),
    ArrR sb 3 C.n (fun i => .int .i64 0), LisR 240 2 (.slice none 0 0) 0 []] ++ (List.range k).map (fun i => MxE (rp i) (C.B i) (C.P i) C.ph [] C.ph)
theorem RNew_o (H : St w0 S0 w L) (hC : C.OK) (rd : RdM w A C.n 4 V) (hV : MV C V) :
    Calls Tryz.prog 41 #[.slice A C.n cap, .int .u64 C.ph] w fun e w' => ∃ r sb rp, e = .returned (.pointer (some ⟨r, 0, none⟩)) ∧ St w0 S0 w' (L ++ [RBusR C A cap r sb rp 0 (bs0 C.ph)]) := by
  have h1 := hC.n1
  have h16 := hC.n16
  obtain ⟨iI, hiI, hzI, hsI, hbI⟩ := info_parts Tryz.infoI
  obtain ⟨iM, hiM, hzM, hsM, hbM⟩ := info_parts Tryz.infoRM
  have mI := fun W => run_make_rowN (P := Tryz.prog) 35 3 iI (.int .i64 0) Tryz.underlying35 hiI hzI rfl hsI .i64 .i64 C.n (by rw [hbI]; omega) (by omega) W
  have HH := Lib.hid H
  have HSH := Lib.hid hC.share
  have HPH := Lib.hid hC.ph
  clear H hiI hzI hsI hbI
  have s1 : St w None ((w.alloc (.cells (madeCells #[.int .i64 0] C.n) 3)).alloc (.cells #[.slice A C.n cap, .int .u64 C.ph, .slice none 0 0, .slice (some ⟨w.heap.size, 0, none⟩) C.n C.n, .slice none 0 0] 203)) (NL C A cap (w.heap.size + 1) w.heap.size (fun _ => 0) none 0 0) := by
    have x1 := (St.begin w).box_arr 3 (madeCells #[.int .i64 0] C.n) C.n (fun _ => .int .i64 0) (by simp [madeCells]) (fun i hi => by simp [madeCells, hi, Nat.mod_one])
    have x2 := x1.front 203 #[.slice A C.n cap, .int .u64 C.ph, .slice none 0 0, .slice (some ⟨w.heap.size, 0, none⟩) C.n C.n, .slice none 0 0]
    have x3 := ((x2.lis_nil 204 1).swap12).lis_nil 240 2
    simpa [NL, mcs] using x3
  have S1 := Lib.hid s1
  clear s1
  go_enter Tryz.func41, Tryz.ntmps41
  go_wp2_with fail
  have s1 := S1.out
  clear S1 mI
  generalize w.heap.size = g0 at *
  go_loopw [6] (fun i wr => ∃ (k : Nat) (rp : Nat → Nat) (Am : Option Addr) (cm : Nat), k ≤ C.n ∧ i = .int .i64 k ∧ St w None wr (NL C A cap (g0 + 1) g0 rp Am cm k)) (fun i _ => C.n - (intOf i).toNat)
  case atStart => exact ⟨0, fun _ => 0, none, 0, by omega, rfl, s1⟩
  case round =>
    clear s1
    obtain ⟨k, rp, Am, cm, hk, rfl, sr⟩ := hrel
    by_cases hlt : k < C.n
    · obtain ⟨ib, off, rfl, -, -, e2, e3⟩ := hV.at_ rd sr.below hlt
      have SR := Lib.hid sr
      obtain ⟨c0, c1, c2, c3, c4⟩ := (sr.blk 0 rfl).five
      have i0 : (0 : Int) ≤ (k : Int) := by omega
      have i1 : (k : Int) < (C.n : Int) := by omega
      have HV2 := Lib.hid hV
      have RD2 := Lib.hid rd
      clear sr c0 c1 c3 c4 rd hV hC
      go_wp2_with fail
      go_region_law (first
        | (go_simp; refine (mx_new SR.out.drew (C.B k) (C.P k) C.ph).mono ?_; rintro e w1 ⟨rr, rfl, s3⟩; have q2 := (s3.blk 0 rfl).five.2.2.1; have s4 := s3.alloc (.cells #[.pointer (some ⟨rr, 0, none⟩)] 204); have q3 := (s4.blk 0 rfl).five.2.2.1; have S4 := Lib.hid s4; clear s3 s4)
        | (refine step_lis (by rfl) _ _ _ (by rfl) 204 iM (.pointer none) 1 8 Tryz.underlying200 hiM hzM hsM hbM (by rfl) (by omega) (.slice Am k cm) k (mcs rp k) (by rfl) (S4.out.lis 1 rfl) _ 1 1 [.pointer (some ⟨rr, 0, none⟩)] (by rfl) (rds_box w1 _ _) (by simp [Value.oneCell']) (by unfold maxLen; omega) (by omega) ?_; intro B c w2 hl hg hat; have s5 := S4.out.lis_put 1 rfl hl hg hat; have f5 := (s5.blk 0 rfl).frozen 2; have q5 := (s5.blk 0 rfl).five.2.2.1; have S5 := Lib.hid s5; clear s5 hl hg hat))
      all_goals
        go_wp2_with fail
        go_roundw
        case rel =>
          have X1 := S5.out.set_ 0 rfl 2 (.slice B (k + 1) c)
          have X2 : St w None (w2.setCell ⟨g0 + 1, 2, none⟩ (.slice B (k + 1) c)) ([BlkR (g0 + 1) 203 #[.slice (some ⟨ib, off, none⟩) C.n cap, .int .u64 C.ph, .slice B (k + 1) c, .slice (some ⟨g0, 0, none⟩) C.n C.n, .slice none 0 0], LisR 204 1 (.slice B (k + 1) c) (k + 1) (mcs (upd rp k rr) (k + 1)),
            ArrR g0 3 C.n (fun i => .int .i64 0), LisR 240 2 (.slice none 0 0) 0 []] ++ (List.range k).map (fun i => MxE (rp i) (C.B i) (C.P i) C.ph [] C.ph) ++ [MxR rr (C.B k) (C.P k) C.ph C.ph []]) := by
            rw [mcs_snoc]
            exact X1
          have X4 := X2.fam_snoc (F' := fun i => MxE (upd rp k rr i) (C.B i) (C.P i) C.ph [] C.ph) (MxE.ok _ _ _ _ _ _) (fun i hi => by simp [upd, show ¬ i = k by omega]) (fun S h => ⟨C.ph, Int.le_refl _, xok0 (HSH.out k hlt) HPH.out, by simpa [upd] using h⟩)
          exact ⟨k + 1, upd rp k rr, B, c, by omega, by go_num, X4⟩
        case measure => simp [intOf]; omega
    · obtain rfl : k = C.n := by omega
      have SR := Lib.hid sr
      clear sr
      go_wp2_with fail
      go_ret
      have Y0 : St w None _ (RL0 C A cap (g0 + 1) g0 rp Am cm none 0 C.ph [] (bs0 C.ph)) := SR.out
      obtain ⟨S', y1, y2, y3⟩ := Y0.made
      exact ⟨_, _, rp, rfl, HH.out.more y3 (Star.one (RBusR.ok C A cap (g0 + 1) g0 rp 0 (bs0 C.ph)) ⟨[], Am, cm, none, 0, hok_begin C.ph, by simp, y1⟩) y2⟩
end
end
end bs
end Go.Proofs.YtdjhpdacglojaaaGreat
