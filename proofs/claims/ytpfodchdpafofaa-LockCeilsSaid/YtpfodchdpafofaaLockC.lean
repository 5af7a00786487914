/- Layer 23: a keeper in memory; who holds what. -/
import Derived.Test.YtpfodchdpafofaaLockM
import Derived.Lib.Hide
import Derived.Test.YtpfodchdpafofaaRows
import Derived.IntWalk
import Derived.WalkMore
import Derived.LoopTactic
import Derived.WalkLawsBesides
import Derived.WalkSpells
import Derived.RegionTactic
namespace Go.Proofs.Ytpfodchdpafofaa
open Go.RowKit
set_option linter.unusedVariables false
set_option maxRecDepth 100000
set_option maxHeartbeats 1000000
theorem Try.infoInt : (Try.prog.info? 3).map (fun i => (i.zero, i.size, i.bytes)) = some (some (.int .i64 0), 1, 8) := by kernel_rfl
theorem info3k {P : Program} {e : TypeId} {z : Value} {m b : Nat} (h : (P.info? e).map (fun i => (i.zero, i.size, i.bytes)) = some (some z, m, b)) : ∃ i, P.info? e = some i ∧ i.zero = some z ∧ i.size = m ∧ i.bytes = b := by
  cases hi : P.info? e with
  | none => rw [hi] at h; cases h
  | some i => rw [hi] at h; simp at h; exact ⟨i, rfl, h.1, h.2.1, h.2.2⟩
def ivs (l : List Nat) : List Value := l.map fun (x : Nat) => Value.int .i64 (x : Int)
theorem ivs_len (l : List Nat) : (ivs l).length = l.length * 1 := by simp [ivs]
theorem ivs_get {l : List Nat} {i x : Nat} (h : l[i]? = some x) : (ivs l)[i]? = some (.int .i64 (x : Int)) := by simp [ivs, h]
theorem ivs_app (l m : List Nat) : ivs (l ++ m) = ivs l ++ ivs m := by simp [ivs]
theorem ivs_one (l : List Nat) : ∀ u ∈ ivs l, u.oneCell' = true := by
  intro u hu
  obtain ⟨x, _, rfl⟩ := List.mem_map.1 hu
  rfl
def cvs (l : List Int) : List Value := l.map fun x => Value.int .i64 x
theorem cvs_len (l : List Int) : (cvs l).length = l.length * 1 := by simp [cvs]
theorem cvs_get {l : List Int} {i : Nat} {x : Int} (h : l[i]? = some x) : (cvs l)[i]? = some (.int .i64 x) := by simp [cvs, h]
theorem cvs_app (l m : List Int) : cvs (l ++ m) = cvs l ++ cvs m := by simp [cvs]
theorem cvs_one (l : List Int) : ∀ u ∈ cvs l, u.oneCell' = true := by
  intro u hu
  obtain ⟨x, _, rfl⟩ := List.mem_map.1 hu
  rfl
theorem Lis.at_ {w : World} {e : TypeId} {A : Option Addr} {n c : Nat} {xs : List Value} (h : Lis w e 1 (.slice A n c) n xs) (hn : 0 < n) : ∃ g off, A = some ⟨g, off, none⟩ ∧ ∀ j u, xs[j]? = some u → w.cell? ⟨g, off + j, none⟩ = some u := h.reads.2.resolve_left (by omega)
theorem Lis.caps {w : World} {e : TypeId} {s : Nat} {A : Option Addr} {n c : Nat} {xs : List Value} (h : Lis w e s (.slice A n c) n xs) : n ≤ c ∧ c ≤ maxLen := by
  obtain ⟨A', c', hv, h1, h2⟩ := h.shape
  injection hv with _ _ hv
  subst hv; exact ⟨h1, h2⟩
/-! ### A keeper in memory -/
def MemR (g : Nat) (m : Mb) : Res := fun w S => ∃ A c, Star [BlkR g 56 #[.int .i64 m.prio, .slice A m.held.length c], LisR 3 1 (.slice A m.held.length c) m.held.length (ivs m.held)] w S
theorem MemR.ok (g : Nat) (m : Mb) : Ok (MemR g m) :=
  ⟨fun ⟨A, c, h⟩ b hb => (Star.ok _).lt h b hb, fun ⟨A, c, h⟩ hk => ⟨A, c, (Star.ok _).frame h hk⟩⟩
def MemO (o : Option Mb) (g : Nat) : Res := match o with | none => EmpR | some m => MemR g m
theorem MemO.ok (o : Option Mb) (g : Nat) : Ok (MemO o g) := by cases o; exact EmpR.ok; exact MemR.ok _ _
def ptrV (g : Nat) : Value := .pointer (some ⟨g, 0, none⟩)
def mapOf (s : KS) (ptr : Nat → Nat) : Int → Option Value := fun i => if 0 ≤ i then (s.mem i.toNat).map (fun _ => ptrV (ptr i.toNat)) else none
theorem mapOf_some {s : KS} {ptr : Nat → Nat} {i : Nat} {m : Mb} (h : s.mem i = some m) : mapOf s ptr (i : Int) = some (ptrV (ptr i)) := by
  unfold mapOf; rw [if_pos (by omega), Int.toNat_natCast, h]; rfl
theorem mapOf_none {s : KS} {ptr : Nat → Nat} {i : Nat} (h : s.mem i = none) : mapOf s ptr (i : Int) = none := by
  unfold mapOf; rw [if_pos (by omega), Int.toNat_natCast, h]; rfl
theorem mapOf_inv {s : KS} {ptr : Nat → Nat} {i : Int} {v : Value} (h : mapOf s ptr i = some v) : ∃ (j : Nat) (m : Mb), (j : Int) = i ∧ s.mem j = some m ∧ v = ptrV (ptr j) := by
  unfold mapOf at h
  split at h
  · cases hm : s.mem i.toNat with
    | none => rw [hm] at h; cases h
    | some m => rw [hm] at h; exact ⟨i.toNat, m, by omega, hm, by simpa using h.symm⟩
  · cases h
def KA (k : Nat) (A : Option Addr) (c b N : Nat) (ptr : Nat → Nat) (s : KS) : List Res :=
  [BlkR k 50 #[.slice A s.ceils.length c, .map (some b)], LisR 3 1 (.slice A s.ceils.length c) s.ceils.length (cvs s.ceils), MapR Try.prog 3 b N (mapOf s ptr)]
def KF (s : KS) (ptr : Nat → Nat) : List Res := (List.range 64).map fun i => MemO (s.mem i) (ptr i)
def KR (k N : Nat) (s : KS) : Res := fun w S => ∃ A c b ptr, Star (KA k A c b N ptr s ++ KF s ptr) w S
theorem KR.ok (k N : Nat) (s : KS) : Ok (KR k N s) :=
  ⟨fun ⟨A, c, b, ptr, h⟩ x hx => (Star.ok _).lt h x hx, fun ⟨A, c, b, ptr, h⟩ hk => ⟨A, c, b, ptr, (Star.ok _).frame h hk⟩⟩
/-- What can be read of a keeper. -/
structure KV (w : World) (k : Nat) (A : Option Addr) (c b N : Nat) (ptr : Nat → Nat) (s : KS) : Prop where
  c0 : w.cell? ⟨k, 0, none⟩ = some (.slice A s.ceils.length c)
  c1 : w.cell? ⟨k, 1, none⟩ = some (.map (some b))
  cl : Lis w 3 1 (.slice A s.ceils.length c) s.ceils.length (cvs s.ceils)
  mp : MapI w Try.prog 3 b N (mapOf s ptr)
  me : ∀ i m, i < 64 → s.mem i = some m → ∃ B d, w.cell? ⟨ptr i, 0, none⟩ = some (.int .i64 m.prio) ∧ w.cell? ⟨ptr i, 1, none⟩ = some (.slice B m.held.length d) ∧ Lis w 3 1 (.slice B m.held.length d) m.held.length (ivs m.held)
section
variable {w0 w w' : World} {S0 S : Nat → Prop} {B L : List Res} {k c b N : Nat} {A : Option Addr} {ptr : Nat → Nat} {s s' : KS}
theorem kl_at {i : Nat} (h : i < 64) : (B ++ (KA k A c b N ptr s ++ KF s ptr))[B.length + (3 + i)]? = some (MemO (s.mem i) (ptr i)) := by
  rw [List.getElem?_append_right (by omega), Nat.add_sub_cancel_left]
  exact fam_at (KA k A c b N ptr s) (fun i => MemO (s.mem i) (ptr i)) h
theorem kl_0 : (B ++ (KA k A c b N ptr s ++ KF s ptr))[B.length + 0]? = some (BlkR k 50 #[.slice A s.ceils.length c, .map (some b)]) := by
  rw [List.getElem?_append_right (by omega), Nat.add_sub_cancel_left]; rfl
theorem kl_1 : (B ++ (KA k A c b N ptr s ++ KF s ptr))[B.length + 1]? = some (LisR 3 1 (.slice A s.ceils.length c) s.ceils.length (cvs s.ceils)) := by
  rw [List.getElem?_append_right (by omega), Nat.add_sub_cancel_left]; rfl
theorem kl_2 : (B ++ (KA k A c b N ptr s ++ KF s ptr))[B.length + 2]? = some (MapR Try.prog 3 b N (mapOf s ptr)) := by
  rw [List.getElem?_append_right (by omega), Nat.add_sub_cancel_left]; rfl
theorem KV.of (H : St w0 S0 w (B ++ (KA k A c b N ptr s ++ KF s ptr))) : KV w k A c b N ptr s := by
  obtain ⟨c0, c1⟩ := (H.blk (B.length + 0) kl_0).two
  refine ⟨c0, c1, H.lis _ kl_1, H.mapi _ kl_2, fun i m hi hm => ?_⟩
  have e : (B ++ (KA k A c b N ptr s ++ KF s ptr))[B.length + (3 + i)]? = some (MemR (ptr i) m) := by rw [kl_at hi, hm]; rfl
  obtain ⟨T, A', c', hT⟩ := H.get _ e
  obtain ⟨d0, d1⟩ := ((St.start hT).blk 0 rfl).two
  exact ⟨A', c', d0, d1, (St.start hT).lis 1 rfl⟩
theorem KV.of_star (H : Star (KA k A c b N ptr s ++ KF s ptr) w S) : KV w k A c b N ptr s := KV.of (B := []) (St.start H)
theorem wf_id {i : Nat} (h : i < 64) : wfI (i : Int) := by unfold wfI; simp [Lit.wf, IntKind.min, IntKind.max, IntKind.signed, IntKind.bits]; omega
theorem zero_mem (w : World) : (zeroValue 52).run Try.prog w = .ok (.pointer none) w := by kernel_rfl
theorem KV.look_some (V : KV w k A c b N ptr s) {i : Nat} {m : Mb} (hi : i < 64) (hm : s.mem i = some m) : (Instr.lookup 48 (.map (some b)) (.int .i64 (i : Int)) true).run Try.prog w = .ok (.tuple #[.pointer (some ⟨ptr i, 0, none⟩), .bool true]) w := by
  have h := V.mp.look Try.underlying3 Try.underlying48 (zero_mem w) (wf_id hi)
  rw [mapOf_some hm] at h; exact h
theorem KV.look_none (V : KV w k A c b N ptr s) {i : Nat} (hi : i < 64) (hm : s.mem i = none) : (Instr.lookup 48 (.map (some b)) (.int .i64 (i : Int)) true).run Try.prog w = .ok (.tuple #[.pointer none, .bool false]) w := by
  have h := V.mp.look Try.underlying3 Try.underlying48 (zero_mem w) (wf_id hi)
  rw [mapOf_none hm] at h; exact h
end
/-! ### The library's -/
def IdxPost (b : Bool) (w : World) (e : Ending) (w' : World) : Prop := ∃ z : Int, e = .returned (.int .i64 z) ∧ decide (0 ≤ z) = b ∧ w = w'
theorem Index_c {w : World} {A : Option Addr} {n c : Nat} {l : List Nat} (h : Lis w 3 1 (.slice A n c) n (ivs l)) (hn1 : n ≤ 1000) (x : Nat) (b : Bool) (hb : b = decide (x ∈ l)) :
    Calls Try.prog 26 #[.slice A n c, .int .i64 (x : Int)] w (IdxPost b w) := by
  have hl : l.length = n := by have := h.1; rw [ivs_len] at this; omega
  have HH := Lib.hid h
  have HL := Lib.hid hl
  have HB := Lib.hid hb
  clear h hl hb
  go_enter Try.func26, Try.ntmps26
  go_wp2_with fail
  go_loopw [8] (fun i wr => ∃ k : Nat, k ≤ n ∧ i = .int .i64 (k : Int) ∧ (∀ j, j < k → l[j]? ≠ some x) ∧ wr = w) (fun i _ => n - (intOf i).toNat)
  case atStart => exact ⟨0, by omega, rfl, fun j h => by omega, rfl⟩
  case round =>
    obtain ⟨k, hk, rfl, hno, rfl⟩ := hrel
    have HNO := Lib.hid hno
    clear hno
    by_cases hkn : k < n
    · have t1 : decide ((k : Int) < (n : Int)) = true := decide_eq_true (by omega)
      have t1' : decide (k < n) = true := decide_eq_true (by omega)
      obtain ⟨y, hy⟩ : ∃ y, l[k]? = some y := ⟨_, List.getElem?_eq_getElem (show k < l.length by rw [HL.out]; exact hkn)⟩
      obtain ⟨g, off, rfl, hc⟩ := HH.out.at_ (by omega)
      have c0 := hc k _ (ivs_get hy)
      have HY := Lib.hid hy
      clear hc hy
      by_cases e : x = y
      · subst e
        have HT := Lib.hid (show decide (0 ≤ (k : Int)) = b by rw [HB.out, decide_eq_true (List.mem_of_getElem? HY.out)]; exact decide_eq_true (by omega))
        go_wp2_with fail
        go_ret
        exact ⟨_, rfl, HT.out, rfl⟩
      · have z1 : ((x : Int) == (y : Int)) = false := beq_eq_false_iff_ne.2 (by omega)
        have z1' : (x == y) = false := beq_eq_false_iff_ne.2 e
        have HNO' := Lib.hid (show ∀ j, j < k + 1 → l[j]? ≠ some x from fun j hj hx => by
          rcases Nat.lt_or_ge j k with h | h
          · exact HNO.out j h hx
          · obtain rfl : j = k := by omega
            rw [HY.out] at hx; injection hx with hx; exact e hx.symm)
        clear e
        go_wp2_with fail
        go_roundw
        case rel => exact ⟨k + 1, by omega, by go_num, HNO'.out, by first | rfl | trivial⟩
        case measure => simp [intOf]; omega
    · have t1 : decide ((k : Int) < (n : Int)) = false := decide_eq_false (by omega)
      have t1' : decide (k < n) = false := decide_eq_false hkn
      have HT := Lib.hid (show decide (0 ≤ (-1 : Int)) = b by
        rw [HB.out, decide_eq_false (p := x ∈ l) fun hx => ?_]
        · rfl
        · obtain ⟨j, hj⟩ := List.getElem?_of_mem hx
          have := (List.getElem?_eq_some_iff.1 hj).1
          rw [HL.out] at this
          exact HNO.out j (by omega) hj)
      go_wp2_with fail
      go_ret
      exact ⟨_, rfl, HT.out, rfl⟩
theorem Contains_c {w : World} {A : Option Addr} {n c : Nat} {l : List Nat} (h : Lis w 3 1 (.slice A n c) n (ivs l)) (hn1 : n ≤ 1000) (x : Nat) (b : Bool) (hb : b = decide (x ∈ l)) :
    Calls Try.prog 25 #[.slice A n c, .int .i64 (x : Int)] w fun e w' => e = .returned (.bool b) ∧ w = w' := by
  have IC := Lib.hid (Index_c h hn1 x b hb)
  clear h hb
  go_enter Try.func25, Try.ntmps25
  go_wp2_with fail
  refine IC.out.mono ?_
  rintro e w1 ⟨z, rfl, hz, rfl⟩
  go_wp2_with fail
  go_ret
  exact ⟨rfl, rfl⟩
theorem holds_c {w : World} {B : Option Addr} {d g : Nat} {m : Mb} (h1 : w.cell? ⟨g, 1, none⟩ = some (.slice B m.held.length d)) (h : Lis w 3 1 (.slice B m.held.length d) m.held.length (ivs m.held)) (hn : m.held.length ≤ 1000) (x : Nat) (b : Bool) (hb : b = decide (x ∈ m.held)) :
    Calls Try.prog 22 #[.pointer (some ⟨g, 0, none⟩), .int .i64 (x : Int)] w fun e w' => e = .returned (.bool b) ∧ w = w' := by
  have CC := Lib.hid (Contains_c h hn x b hb)
  clear h hb hn
  generalize m.held.length = n at *
  go_enter Try.func22, Try.ntmps22
  go_wp2_with fail
  refine CC.out.mono ?_
  rintro e w1 ⟨rfl, rfl⟩
  go_wp2_with fail
  go_ret
  exact ⟨rfl, rfl⟩
theorem clone_i {A : Option Addr} {c n : Nat} {l : List Nat} (w : World) (hr : Rds w A n 1 (ivs l)) (hn1 : n ≤ 1000) : Calls Try.prog 19 #[.slice A n c] w fun e w' => ∃ B d, e = .returned (.slice B n d) ∧ St w None w' [LisR 3 1 (.slice B n d) n (ivs l)] := by
  obtain ⟨iI, hiI, hzI, hsI, hbI⟩ := info3k Try.infoInt
  cases A with
  | none =>
    obtain rfl : n = 0 := by
      rcases hr.2 with h | ⟨g, off, h, _⟩
      · exact h
      · cases h
    have hl0 : ivs l = [] := List.eq_nil_of_length_eq_zero (by have := hr.1; omega)
    have s1 : St w None w [LisR 3 1 (.slice none 0 0) 0 (ivs l)] := by rw [hl0]; exact (St.begin w).lis_nil 3 1
    have S1 := Lib.hid s1
    clear s1 hl0 hr
    have NY : ∀ W, (binOp .eql 34 (.slice none 0 c) (.slice none 0 0)).run Try.prog W = .ok (.bool true) W := fun W => by rfl
    go_enter Try.func19, Try.ntmps19
    go_wp2_with fail
    go_ret
    exact ⟨none, 0, rfl, S1.out⟩
  | some a =>
    have NN : ∀ W, (binOp .eql 34 (.slice (some a) n c) (.slice none 0 0)).run Try.prog W = .ok (.bool false) W := fun W => by rfl
    have s1 : St w None (w.alloc (.cells #[] 3)) [LisR 3 1 (.slice (some ⟨w.heap.size, 0, none⟩) 0 0) 0 []] := (St.begin w).lis_new 3 1 0 #[] rfl (by unfold maxLen; omega)
    have HL := Lib.hid (show Lis (w.alloc (.cells #[] 3)) 3 1 (.slice (some ⟨w.heap.size, 0, none⟩) 0 0) 0 [] from s1.lis 0 rfl)
    have RB := Lib.hid (show Rds (w.alloc (.cells #[] 3)) (some a) n 1 (ivs l) from ⟨hr.1, hr.2.imp id fun ⟨g, off, h1, h2⟩ => ⟨g, off, h1, fun j u hu => cell_alloc (h2 j u hu) _⟩⟩)
    have S1 := Lib.hid s1
    have HN := Lib.hid hn1
    clear s1 hr
    go_enter Try.func19, Try.ntmps19
    go_wp2_with (at_builtin; refine wpList_lis rfl (.tmp 5) (.tmp 6) 34 rfl 3 iI (.int .i64 0) 1 8 Try.underlying34 hiI hzI hsI hbI rfl (by decide) _ _ _ rfl HL.out (some a) n c (ivs l) rfl RB.out (ivs_one l) (by have := HN.out; unfold maxLen; omega) (by omega) ?_; intro B d w4 hl hg hat; rw [Nat.zero_add] at hl hat ⊢; have t4 := S1.out.lis_put 0 rfl hl hg hat; have T4 := Lib.hid (show St w None w4 [LisR 3 1 (.slice B n d) n (ivs l)] from t4); clear hl hg hat t4)
    go_wp2_with fail
    go_ret
    exact ⟨B, d, rfl, T4.out⟩
end Go.Proofs.Ytpfodchdpafofaa
