/- Layer 23: who goes; who is known. -/
import Derived.Test.YtpfodchdpafofaaLockG
namespace Go.Proofs.Ytpfodchdpafofaa
open Go.RowKit
set_option linter.unusedVariables false
set_option maxRecDepth 100000
set_option maxHeartbeats 2000000
section
variable {w0 w w' : World} {S0 S : Nat → Prop} {B L : List Res} {k c b N : Nat} {A : Option Addr} {ptr : Nat → Nat} {s s' : KS}
/-- One of them is kept in mind no more, in its place stands the last one. -/
theorem St.fill {R : Res} {q : Nat} (h : St w0 S0 w (L ++ [R])) (hq : q < L.length) : St w0 S0 w (L.set q R) := by
  obtain ⟨S, ⟨F, f1, f2, f3, f4⟩, hd⟩ := h
  refine ⟨fun x => ∃ j, (if j = q then F L.length x else j < L.length ∧ F j x), ⟨fun j x => if j = q then F L.length x else j < L.length ∧ F j x, fun j R' hR => ?_, fun i j x hi hj => ?_, fun j x hj => ?_, fun x => Iff.rfl⟩, hd.less fun x ⟨j, hj⟩ => ?_⟩
  · by_cases e : j = q
    · subst e
      rw [List.getElem?_set_self hq] at hR
      injection hR with hR
      subst hR
      simpa using f1 L.length R (by simp)
    · rw [List.getElem?_set_ne (Ne.symm e)] at hR
      have hj := (List.getElem?_eq_some_iff.1 hR).1
      have := f1 j R' (by rw [List.getElem?_append_left hj]; exact hR)
      simp only [if_neg e]
      have e2 : (fun x => j < L.length ∧ F j x) = F j := funext fun x => propext ⟨fun h => h.2, fun h => ⟨hj, h⟩⟩
      rw [e2]; exact this
  · dsimp only at hi hj
    by_cases e1 : i = q <;> by_cases e2 : j = q
    · rw [e1, e2]
    · rw [if_pos e1] at hi; rw [if_neg e2] at hj
      have := f2 _ _ x hi hj.2
      have := hj.1; omega
    · rw [if_neg e1] at hi; rw [if_pos e2] at hj
      have := f2 _ _ x hi.2 hj
      have := hi.1; omega
    · rw [if_neg e1] at hi; rw [if_neg e2] at hj
      exact f2 _ _ x hi.2 hj.2
  · dsimp only at hj
    by_cases e : j = q
    · rw [e]; simpa using hq
    · rw [if_neg e] at hj; simpa using hj.1
  · by_cases e : j = q
    · rw [if_pos e] at hj; exact (f4 x).2 ⟨_, hj⟩
    · rw [if_neg e] at hj; exact (f4 x).2 ⟨_, hj.2⟩
theorem St.forget {R : Res} {q : Nat} (h : St w0 S0 w L) (hq : L[q]? = some R) : St w0 S0 w (L.set q EmpR) :=
  h.turn hq EmpR.ok fun T hT => ⟨fun _ => False, fun b h => h, ⟨rfl, rfl, rfl, Nat.le_refl _, fun _ _ _ => rfl, fun b h => h.elim⟩⟩
theorem mapOf_put {i : Nat} (m : Mb) (g : Nat) : mapOf (s.set i (some m)) (fun j => if j = i then g else ptr j) = updI (mapOf s ptr) (i : Int) (some (ptrV g)) := by
  funext j
  unfold mapOf updI
  by_cases h : 0 ≤ j
  · rw [if_pos h]
    show Option.map _ (if j.toNat = i then some m else s.mem j.toNat) = _
    by_cases e : j.toNat = i
    · rw [if_pos e, if_pos (by omega)]; simp [e]
    · rw [if_neg e, if_neg (by omega)]; dsimp only; rw [if_pos h]; simp [e]
  · rw [if_neg h, if_neg (by omega)]; dsimp only; rw [if_neg h]
theorem mapOf_gone {i : Nat} : mapOf (s.set i none) ptr = updI (mapOf s ptr) (i : Int) none := by
  funext j
  unfold mapOf updI
  by_cases h : 0 ≤ j
  · rw [if_pos h]
    show Option.map _ (if j.toNat = i then none else s.mem j.toNat) = _
    by_cases e : j.toNat = i
    · rw [if_pos e, if_pos (by omega)]; rfl
    · rw [if_neg e, if_neg (by omega)]; dsimp only; rw [if_pos h]
  · rw [if_neg h, if_neg (by omega)]; dsimp only; rw [if_neg h]
theorem Gone_c (h : KR k N s w S) (hs : s.ok) {i : Nat} {m : Mb} (hm : s.mem i = some m) :
    Calls Try.prog 16 #[.pointer (some ⟨k, 0, none⟩), .int .i64 (i : Int)] w fun e w' => ∃ x : Option Addr × Nat, e = .returned (.slice x.1 m.held.length x.2) ∧ ∃ S', Star (KR k N (s.set i none) :: [LisR 3 1 (.slice x.1 m.held.length x.2) m.held.length (ivs m.held.reverse)]) w' S' ∧ Did S S' w w' := by
  obtain ⟨A, c, b, ptr, h⟩ := h
  have hi := hs.id i m hm
  have H := Lib.hid (St.start h)
  have HM := Lib.hid hm
  have HD := Lib.hid (Held_some (KV.of_star h) hs hm)
  have hlen := hs.len hm
  clear h hs hm
  obtain ⟨n, hn⟩ : ∃ n, m.held.length = n := ⟨_, rfl⟩
  rw [hn] at HD hlen ⊢
  have HN := Lib.hid hn
  clear hn
  go_enter Try.func16, Try.ntmps16
  go_wp2_with fail
  refine HD.out.mono ?_
  rintro e w1 ⟨C, d, rfl, s1⟩
  have u1 := H.out.join s1
  have hq : ((KA k A c b N ptr s ++ KF s ptr) ++ [LisR 3 1 (.slice C n d) n (ivs m.held)])[67]? = some (LisR 3 1 (.slice C n d) n (ivs m.held)) := by
    rw [List.getElem?_append_right (by simp [KA, KF])]; simp [KA, KF]
  have RV := Lib.hid (Reverse_o u1 hq (by omega))
  clear HD s1 u1 hq
  go_wp2_with fail
  refine RV.out.mono ?_
  rintro e w2 ⟨rfl, u2⟩
  have u2 : St w S w2 ((KA k A c b N ptr s ++ KF s ptr) ++ [LisR 3 1 (.slice C n d) n (ivs m.held.reverse)]) := by
    rw [List.set_append_right _ _ (by simp [KA, KF])] at u2
    have e : 67 - (KA k A c b N ptr s ++ KF s ptr).length = 0 := by simp [KA, KF]
    rw [e] at u2
    exact u2
  have c1 := (u2.blk 0 rfl).two.2
  have MP := Lib.hid (u2.mapi 2 rfl)
  have U2 := Lib.hid u2
  clear RV u2
  go_wp2_with (first
    | (at_delete; refine wpList_mapI_del rfl _ _ 48 3 rfl 52 Try.underlying3 Try.underlying48 b N (mapOf s ptr) rfl MP.out (i : Int) (wf_id hi) rfl ?_; intro w3 hm3 hg3; have u3 := U2.out.map_turn 2 rfl hm3 hg3; have U3 := Lib.hid u3; clear hm3 hg3 u3)
    | fail)
  go_ret
  refine ⟨(C, d), rfl, ?_⟩
  have v1 : St w S w3 ([BlkR k 50 #[.slice A s.ceils.length c, .map (some b)], LisR 3 1 (.slice A s.ceils.length c) s.ceils.length (cvs s.ceils), MapR Try.prog 3 b N (updI (mapOf s ptr) (i : Int) none)] ++ KF s ptr ++ [LisR 3 1 (.slice C n d) n (ivs m.held.reverse)]) := U3.out
  rw [← mapOf_gone] at v1
  have hq : ([BlkR k 50 #[.slice A s.ceils.length c, .map (some b)], LisR 3 1 (.slice A s.ceils.length c) s.ceils.length (cvs s.ceils), MapR Try.prog 3 b N (mapOf (s.set i none) ptr)] ++ KF s ptr ++ [LisR 3 1 (.slice C n d) n (ivs m.held.reverse)])[3 + i]? = some (MemO (s.mem i) (ptr i)) := by
    rw [List.getElem?_append_left (by simp [KF]; omega)]
    exact fam_at [_, _, _] (fun j => MemO (s.mem j) (ptr j)) hi
  have v2 := v1.forget hq
  rw [List.set_append_left _ _ (by simp [KF]; omega)] at v2
  have hf := fam_set [BlkR k 50 #[.slice A s.ceils.length c, .map (some b)], LisR 3 1 (.slice A s.ceils.length c) s.ceils.length (cvs s.ceils), MapR Try.prog 3 b N (mapOf (s.set i none) ptr)] (fun j => MemO (s.mem j) (ptr j)) EmpR hi
  have e : ([BlkR k 50 #[.slice A s.ceils.length c, .map (some b)], LisR 3 1 (.slice A s.ceils.length c) s.ceils.length (cvs s.ceils), MapR Try.prog 3 b N (mapOf (s.set i none) ptr)]).length = 3 := rfl
  rw [e] at hf
  unfold KF at v2
  rw [hf] at v2
  have h2 := kf_set (s := s) (ptr := ptr) (i := i) none ptr (fun _ _ => rfl)
  rw [show (fun j => if j = i then EmpR else MemO (s.mem j) (ptr j)) = (fun j => if j = i then MemO none (ptr i) else MemO (s.mem j) (ptr j)) from rfl, h2] at v2
  have v3 : St w S w3 ([LisR 3 1 (.slice C n d) n (ivs m.held.reverse)] ++ (KA k A c b N ptr (s.set i none) ++ KF (s.set i none) ptr)) := St.comm v2
  have v4 := (v3.fold (KR.ok k N (s.set i none)) fun T hT => ⟨A, c, b, ptr, hT⟩).comm
  obtain ⟨S', h1, h2⟩ := v4
  exact ⟨S', h1, h2⟩
theorem Gone_o (H : St w0 S0 w L) (q : Nat) (hq : L[q]? = some (KR k N s)) (hs : s.ok) {i : Nat} {m : Mb} (hm : s.mem i = some m) :
    Calls Try.prog 16 #[.pointer (some ⟨k, 0, none⟩), .int .i64 (i : Int)] w fun e w' => ∃ C d, e = .returned (.slice C m.held.length d) ∧ St w0 S0 w' (L.set q (KR k N (s.set i none)) ++ [LisR 3 1 (.slice C m.held.length d) m.held.length (ivs m.held.reverse)]) :=
  (St.call_more (fun w S h => Gone_c h hs hm) H q hq).mono fun e w' ⟨x, h1, h2⟩ => ⟨x.1, x.2, h1, h2⟩
theorem Know_c (h : KR k N s w S) (hs : s.ok) {i : Nat} (hi : i < 64) (hm : ∀ m, s.mem i = some m → m.held = []) {p : Int} (hp : 0 ≤ p ∧ p ≤ 100) (hN : N ≤ 1000) :
    Calls Try.prog 11 #[.pointer (some ⟨k, 0, none⟩), .int .i64 (i : Int), .int .i64 p] w fun e w' => e = .returned (.int .i64 0) ∧ ∃ S', KR k (N + 1) (s.set i (some ⟨p, []⟩)) w' S' ∧ Did S S' w w' := by
  obtain ⟨A, c, b, ptr, h⟩ := h
  have V := KV.of_star h
  have s0 : St w S w ((KA k A c b N ptr s ++ KF s ptr)) := St.start h
  have d1 : decide ((i : Int) < 0) = false := decide_eq_false (by omega)
  have d2 : decide (63 < (i : Int)) = false := decide_eq_false (by omega)
  have d2' : decide (63 < i) = false := decide_eq_false (by omega)
  have d3 : decide (p < 0) = false := decide_eq_false (by omega)
  have d4 : decide (100 < p) = false := decide_eq_false (by omega)
  have LK : ∃ v ok, (Instr.lookup 48 (.map (some b)) (.int .i64 (i : Int)) true).run Try.prog w = .ok (.tuple #[v, .bool ok]) w ∧ (ok = false ∨ ∃ C d, v = .pointer (some ⟨ptr i, 0, none⟩) ∧ w.cell? ⟨ptr i, 1, none⟩ = some (.slice C 0 d)) := by
    cases hmi : s.mem i with
    | none => exact ⟨_, _, V.look_none hi hmi, Or.inl rfl⟩
    | some m =>
      obtain ⟨C, d, m0, m1, ml⟩ := V.me i m hi hmi
      rw [hm m hmi] at m1
      exact ⟨_, _, V.look_some hi hmi, Or.inr ⟨C, d, rfl, m1⟩⟩
  obtain ⟨v, ok, LK, hok⟩ := LK
  have c1 := V.c1
  have s1 : St w S (w.alloc (.cells #[.int .i64 p, .slice none 0 0] 56)) ((KA k A c b N ptr s ++ KF s ptr) ++ [MemR w.heap.size ⟨p, []⟩]) := by
    have t := (s0.box 56 #[.int .i64 p, .slice none 0 0]).lis_nil 3 1
    rw [List.append_assoc] at t
    exact t.fold (MemR.ok _ _) fun T hT => ⟨none, 0, hT⟩
  have MP := Lib.hid (s1.mapi 2 rfl)
  have S1 := Lib.hid s1
  have HOK := Lib.hid hok
  have fin : ∀ w3, MapI w3 Try.prog 3 b (N + 1) (updI (mapOf s ptr) (i : Int) (some (ptrV w.heap.size))) → (w.alloc (.cells #[.int .i64 p, .slice none 0 0] 56)).grownBy w3 (some b) → ∃ S', KR k (N + 1) (s.set i (some ⟨p, []⟩)) w3 S' ∧ Did S S' w w3 := fun w3 hm3 hg3 => by
    have u3 : St w S w3 (([BlkR k 50 #[.slice A s.ceils.length c, .map (some b)], LisR 3 1 (.slice A s.ceils.length c) s.ceils.length (cvs s.ceils), MapR Try.prog 3 b (N + 1) (updI (mapOf s ptr) (i : Int) (some (ptrV w.heap.size)))] ++ KF s ptr) ++ [MemR w.heap.size ⟨p, []⟩]) := S1.out.map_turn 2 rfl hm3 hg3
    rw [← mapOf_put (s := s) (ptr := ptr) ⟨p, []⟩ w.heap.size] at u3
    have u4 := u3.fill (q := 3 + i) (by simp [KF]; omega)
    have hf := fam_set [BlkR k 50 #[.slice A s.ceils.length c, .map (some b)], LisR 3 1 (.slice A s.ceils.length c) s.ceils.length (cvs s.ceils), MapR Try.prog 3 b (N + 1) (mapOf (s.set i (some ⟨p, []⟩)) (fun j => if j = i then w.heap.size else ptr j))] (fun j => MemO (s.mem j) (ptr j)) (MemR w.heap.size ⟨p, []⟩) hi
    have e : ([BlkR k 50 #[.slice A s.ceils.length c, .map (some b)], LisR 3 1 (.slice A s.ceils.length c) s.ceils.length (cvs s.ceils), MapR Try.prog 3 b (N + 1) (mapOf (s.set i (some ⟨p, []⟩)) (fun j => if j = i then w.heap.size else ptr j))]).length = 3 := rfl
    rw [e] at hf
    unfold KF at u4
    rw [hf] at u4
    have h2 := kf_set (s := s) (ptr := ptr) (i := i) (some ⟨p, []⟩) (fun j => if j = i then w.heap.size else ptr j) (fun j hj => if_neg hj)
    rw [if_pos rfl] at h2
    rw [show (fun j => if j = i then MemR w.heap.size ⟨p, []⟩ else MemO (s.mem j) (ptr j)) = (fun j => if j = i then MemO (some ⟨p, []⟩) w.heap.size else MemO (s.mem j) (ptr j)) from rfl, h2] at u4
    exact u4.fin fun T hT => ⟨A, c, b, _, hT⟩
  have FIN := Lib.hid fin
  clear V s0 s1 fin h hm hs hok
  rcases HOK.out with rfl | ⟨C, d, rfl, m1⟩
  · go_enter Try.func11, Try.ntmps11
    go_wp2_with (first
      | (at_mapUpdate; refine wpList_mapI_put rfl _ _ _ 48 rfl 3 52 Try.underlying3 Try.underlying48 b N (mapOf s ptr) rfl MP.out (by unfold maxLen; omega) (i : Int) (wf_id hi) (ptrV w.heap.size) rfl rfl ?_; intro w3 hm3 hg3; have F3 := Lib.hid (FIN.out w3 hm3 hg3); clear hm3 hg3)
      | fail)
    go_ret
    exact ⟨rfl, F3.out⟩
  · cases ok with
    | false =>
      go_enter Try.func11, Try.ntmps11
      go_wp2_with (first
        | (at_mapUpdate; refine wpList_mapI_put rfl _ _ _ 48 rfl 3 52 Try.underlying3 Try.underlying48 b N (mapOf s ptr) rfl MP.out (by unfold maxLen; omega) (i : Int) (wf_id hi) (ptrV w.heap.size) rfl rfl ?_; intro w3 hm3 hg3; have F3 := Lib.hid (FIN.out w3 hm3 hg3); clear hm3 hg3)
        | fail)
      go_ret
      exact ⟨rfl, F3.out⟩
    | true =>
      go_enter Try.func11, Try.ntmps11
      go_wp2_with (first
        | (at_mapUpdate; refine wpList_mapI_put rfl _ _ _ 48 rfl 3 52 Try.underlying3 Try.underlying48 b N (mapOf s ptr) rfl MP.out (by unfold maxLen; omega) (i : Int) (wf_id hi) (ptrV w.heap.size) rfl rfl ?_; intro w3 hm3 hg3; have F3 := Lib.hid (FIN.out w3 hm3 hg3); clear hm3 hg3)
        | fail)
      go_ret
      exact ⟨rfl, F3.out⟩
theorem Know_o (H : St w0 S0 w L) (q : Nat) (hq : L[q]? = some (KR k N s)) (hs : s.ok) {i : Nat} (hi : i < 64) (hm : ∀ m, s.mem i = some m → m.held = []) {p : Int} (hp : 0 ≤ p ∧ p ≤ 100) (hN : N ≤ 1000) :
    Calls Try.prog 11 #[.pointer (some ⟨k, 0, none⟩), .int .i64 (i : Int), .int .i64 p] w fun e w' => e = .returned (.int .i64 0) ∧ St w0 S0 w' (L.set q (KR k (N + 1) (s.set i (some ⟨p, []⟩)))) :=
  St.call (fun w S h => Know_c h hs hi hm hp hN) (KR.ok _ _ _) H q hq
end
end Go.Proofs.Ytpfodchdpafofaa
