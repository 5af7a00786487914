/- Layer 4: the document's own wheel as one thing, by its timers. -/
import Derived.Test.YtklajkjmecfkpaaWhT
import Derived.Test.YtklajkjmecfkpaaWhV
import Derived.Test.YtklajkjmecfkpaaWhQ
namespace Go.Proofs.Ytklajkjmecfkpaa
open Go.RowKit
set_option linter.unusedVariables false
set_option maxRecDepth 100000
set_option maxHeartbeats 1000000
def RWT (r : Nat) (now : Int) (T : Int → Option Int) : Res := fun w S => ∃ l, RL l T ∧ RWR r now l w S
theorem RWT.ok (r : Nat) (now : Int) (T : Int → Option Int) : Ok (RWT r now T) :=
  ⟨fun {w S} h => by obtain ⟨l, _, h⟩ := h; exact (RWR.ok r now l).lt h, fun {w w' S} h hk => by obtain ⟨l, hl, h⟩ := h; exact ⟨l, hl, (RWR.ok r now l).frame h hk⟩⟩
section
variable {w0 w w' : World} {S0 S : Nat → Prop} {L : List Res} {r : Nat} {now id at1 u : Int} {T : Int → Option Int}
theorem rwt_cells (H : St w0 S0 w L) (i : Nat) (hi : L[i]? = some (RWT r now T)) (ok : TOK now T) : (∃ A c, w.cell? ⟨r, 0, none⟩ = some (.slice A (cnt T) c)) ∧ w.cell? ⟨r, 1, none⟩ = some (.int .u64 now) := by
  obtain ⟨S, l, hl, A, c, hs⟩ := H.get i hi
  have h := ((St.start hs).blk 0 rfl).two
  rw [hl.cnt ok] at h
  exact ⟨⟨A, c, h.1⟩, h.2⟩
theorem rwt_new (H : St w0 S0 w L) : St w0 S0 (w.alloc (.cells #[.slice none 0 0, .int .u64 0] 30)) (L ++ [RWT w.heap.size 0 (fun _ => none)]) := by
  have h := (H.box 30 #[.slice none 0 0, .int .u64 0]).lis_nil 63 2
  rw [List.append_assoc] at h
  exact h.fold (RWT.ok _ _ _) fun S h => ⟨[], RL.nil, none, 0, h⟩
theorem rwtCancel_o (H : St w0 S0 w L) (i : Nat) (hi : L[i]? = some (RWT r now T)) (ok : TOK now T) : Calls Try.prog 13 #[.pointer (some ⟨r, 0, none⟩), .int .i64 id] w fun e w' => e = .returned (.int .i64 (if (T id).isSome = true then 0 else 6)) ∧ St w0 S0 w' (L.set i (RWT r now (updT T id none))) :=
  St.call (R := RWT r now T) (fun w S h => by
    obtain ⟨l, hl, h⟩ := h
    refine (rwCancel_c h (hl.len ok) id).mono ?_
    rintro e w' ⟨f, l', he, hc, S', hs, hd⟩
    obtain ⟨rfl, rfl⟩ := hl.can hc
    exact ⟨he, S', ⟨_, hl.canR id, hs⟩, hd⟩) (RWT.ok _ _ _) H i hi
theorem rwtAt_o (H : St w0 S0 w L) (i : Nat) (hi : L[i]? = some (RWT r now T)) (ok : TOK now T) : Calls Try.prog 18 #[.pointer (some ⟨r, 0, none⟩), .int .i64 id] w fun e w' => e = .returned (.tuple #[.int .u64 ((T id).getD 0), .int .i64 (if (T id).isSome = true then 0 else 6)]) ∧ St w0 S0 w' L := by
  obtain ⟨S, l, hl, h⟩ := H.get i hi
  refine (rwAt_c h (hl.len ok) id).mono ?_
  rintro e w' ⟨a, f, rfl, ha, hb⟩
  obtain ⟨rfl, rfl⟩ := hl.at_ ha
  exact ⟨rfl, H.stay hb⟩
theorem rwtSet_o (H : St w0 S0 w L) (i : Nat) (hi : L[i]? = some (RWT r now T)) (ok : TOK now T) : Calls Try.prog 11 #[.pointer (some ⟨r, 0, none⟩), .int .i64 id, .int .u64 at1] w fun e w' => e = .returned (.int .i64 (setA now id at1)) ∧ St w0 S0 w' (L.set i (RWT r now (setT now T id at1))) := by
  by_cases hf : setA now id at1 = 0
  · have hs : setT now T id at1 = updT T id (some at1) := by unfold setT; rw [if_pos hf]
    rw [hs, hf]
    have hb : 0 ≤ id ∧ id < 1000 ∧ now < at1 ∧ at1 < 4611686018427387904 := by
      unfold setA at hf
      split at hf
      · cases hf
      · rename_i hh
        split at hf
        · omega
        · cases hf
    refine St.call (R := RWT r now T) (fun w S h => ?_) (RWT.ok _ _ _) H i hi
    obtain ⟨l, hl, h⟩ := h
    obtain ⟨f0, hc0⟩ := hl.can_ex id
    have hl1 := hl.canR id
    obtain ⟨k, hk, hle, hgt⟩ := place_ex id at1 (canL l id)
    have hR := hl1.setR (id := id) (a := at1) (by unfold updT; rw [if_pos rfl]) hk hle hgt
    rw [updT_twice] at hR
    refine (rwSet_c h (hl.len ok) hb.1 (by omega) hb.2.2.1 hb.2.2.2 ok.n0 hc0 (fun f1 l1 hc => (hl.can hc).1) (hl1.len (ok.del id)) hk rfl hle hgt).mono ?_
    rintro e w' ⟨he, S', hs, hd⟩
    exact ⟨he, S', ⟨_, hR, hs⟩, hd⟩
  · have hs : setT now T id at1 = T := by unfold setT; rw [if_neg hf]
    rw [hs, set_same hi]
    obtain ⟨S, l, hl, h⟩ := H.get i hi
    exact (rwSet_no h rfl hf).mono fun e w' ⟨he, hb⟩ => ⟨he, H.stay hb⟩
theorem rwtGo_o (H : St w0 S0 w L) (i : Nat) (hi : L[i]? = some (RWT r now T)) (ok : TOK now T) : Calls Try.prog 15 #[.pointer (some ⟨r, 0, none⟩), .int .u64 u] w fun e w' => ∃ A n cap o, e = .returned (.tuple #[.slice A n cap, .int .i64 (goA now u)]) ∧ GoP now T u o ∧ o.length = n ∧
      St w0 S0 w' (L.set i (RWT r (goN now u) (goT now T u)) ++ [LisR 3 1 (.slice A n cap) n (iv o)]) := by
  by_cases hf : goA now u = 0
  · have hu : now ≤ u ∧ u < 4611686018427387904 := by
      unfold goA at hf
      split at hf
      · split at hf
        · cases hf
        · omega
      · cases hf
    obtain ⟨q1, q2, q3⟩ := go_ok hu.1 hu.2 T
    rw [q1, q2, q3]
    refine (St.call_more (α := Option Addr × Nat × Nat × List Int) (R := RWT r now T) (R' := RWT r u (aft T u)) (N := fun x => [LisR 3 1 (.slice x.1 x.2.1 x.2.2.1) x.2.1 (iv x.2.2.2)]) (Post := fun x e => e = .returned (.tuple #[.slice x.1 x.2.1 x.2.2.1, .int .i64 0]) ∧ GoP now T u x.2.2.2 ∧ x.2.2.2.length = x.2.1) ?_ H i hi).mono fun e w' ⟨⟨A, n, cap, o⟩, ⟨h1, h2, h3⟩, s⟩ => ⟨A, n, cap, o, h1, h2, h3, s⟩
    intro w S h
    obtain ⟨l, hl, h⟩ := h
    obtain ⟨m, hg⟩ := goT_ex u l
    obtain ⟨hl', ho⟩ := hl.goR hg
    refine (rwGo_c h (hl.len ok) hu.1 hu.2 hg).mono fun e w' ⟨B, cb, he, s'⟩ => ⟨(B, m, cb, (l.take m).map Prod.fst), ⟨he, goP_ok hu.1 hu.2 ho, by dsimp only; rw [List.length_map, List.length_take]; have := hg.1; omega⟩, ?_⟩
    exact (St.fold (A := [LisR 3 1 (.slice B m cb) m (iv ((l.take m).map Prod.fst))]) (B := [RWR r u (l.drop m)]) s'.comm (RWT.ok r u (aft T u)) fun S' h => ⟨_, hl', star_one h⟩).comm
  · have h1 : goN now u = now := by unfold goN; rw [if_neg hf]
    have h2 : goT now T u = T := by unfold goT; rw [if_neg hf]
    rw [h1, h2, set_same hi]
    obtain ⟨S, l, hl, h⟩ := H.get i hi
    refine (rwGo_no h rfl hf).mono fun e w' ⟨he, hb⟩ => ⟨none, 0, 0, [], he, by unfold GoP; rw [if_neg hf], rfl, ?_⟩
    exact (H.stay hb).lis_nil 3 1
/-! ### looks that leave the world as it is -/
theorem wNow_q (H : St w0 S0 w L) (i : Nat) {c : Nat} (hi : L[i]? = some (WheelR c now T)) : Calls Try.prog 19 #[.pointer (some ⟨c, 0, none⟩)] w fun e w' => e = .returned (.int .u64 now) ∧ w = w' := by
  obtain ⟨S, ok, bw, mb, hs⟩ := H.get i hi
  have c0 := wl_now (St.start hs)
  clear hs ok H hi
  go_enter Try.func19, Try.ntmps19
  go_wp2_with fail
  go_ret
  exact ⟨rfl, rfl⟩
theorem wLen_q (H : St w0 S0 w L) (i : Nat) {c : Nat} (hi : L[i]? = some (WheelR c now T)) : Calls Try.prog 20 #[.pointer (some ⟨c, 0, none⟩)] w fun e w' => e = .returned (.int .i64 (cnt T)) ∧ w = w' := by
  obtain ⟨S, ok, bw, mb, hs⟩ := H.get i hi
  have c1 := wl_when (St.start hs)
  have ln := fun ty => (wl_whenn (St.start hs)).len Try.underlying54 ty
  rw [show cnt (WV T) = cnt T from cnt_like fun j => by unfold WV; simp] at ln
  clear hs ok H hi
  go_enter Try.func20, Try.ntmps20
  go_wp2_with fail
  go_ret
  exact ⟨rfl, rfl⟩
end
end Go.Proofs.Ytklajkjmecfkpaa
