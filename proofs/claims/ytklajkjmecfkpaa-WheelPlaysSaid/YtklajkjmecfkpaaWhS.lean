/- Layer 4: the document's own wheel: At, and Go. -/
import Derived.Test.YtklajkjmecfkpaaWhP
namespace Go.Proofs.Ytklajkjmecfkpaa
open Go.RowKit
set_option linter.unusedVariables false
set_option maxRecDepth 100000
set_option maxHeartbeats 4000000
/-- What At answers. -/
def AtT (l : List (Int × Int)) (id a f : Int) : Prop := (a = 0 ∧ f = 6 ∧ ∀ x, x ∈ l → x.1 ≠ id) ∨ ∃ x, x ∈ l ∧ x.1 = id ∧ a = x.2 ∧ f = 0
/-- The first that go off. -/
def GoT (l : List (Int × Int)) (u : Int) (m : Nat) : Prop := m ≤ l.length ∧ (∀ x, x ∈ l.take m → x.2 ≤ u) ∧ ∀ x, l[m]? = some x → u < x.2
section
variable {w0 w w' : World} {S0 S : Nat → Prop} {L : List Res} {r : Nat} {now : Int} {l : List (Int × Int)}
theorem rwAt_c (h : RWR r now l w S) (hlen : l.length ≤ 1000) (id : Int) :
    Calls Try.prog 18 #[.pointer (some ⟨r, 0, none⟩), .int .i64 id] w fun e w' => ∃ a f, e = .returned (.tuple #[.int .u64 a, .int .i64 f]) ∧ AtT l id a f ∧ Below w.heap.size w w' := by
  have FI := Lib.hid (rwfind_c h hlen id)
  obtain ⟨A, c, hr⟩ := h
  have S0' := Lib.hid (St.start hr)
  clear hr
  go_enter Try.func18, Try.ntmps18
  go_wp2_with fail
  refine FI.out.mono ?_
  rintro e w1 ⟨⟨z, rfl, hz⟩, rfl⟩
  rcases hz with ⟨rfl, hno⟩ | ⟨i, x, rfl, hx, hid⟩
  · have HNO := Lib.hid hno
    clear hno FI
    go_wp2_with fail
    go_ret2
    exact ⟨0, 6, rfl, Or.inl ⟨rfl, rfl, HNO.out⟩, Below.refl _ _⟩
  · have q0 := (S0'.out.blk 0 rfl).two.1
    obtain ⟨b, off, rfl, m0, m1⟩ := tm_cell (S0'.out.lis 1 rfl) hx
    have hin := (List.getElem?_eq_some_iff.1 hx).1
    have HA := Lib.hid (show AtT l id x.2 0 from Or.inr ⟨x, List.mem_of_getElem? hx, hid, rfl, rfl⟩)
    obtain ⟨n, hn⟩ : ∃ n, l.length = n := ⟨_, rfl⟩
    rw [hn] at q0 hlen hin
    obtain ⟨x1, x2⟩ := x
    dsimp only at m0 m1
    have z1 : decide ((i : Int) < 0) = false := decide_eq_false (by omega)
    have v0 : (0 : Int) ≤ (i : Int) := by omega
    have v1 : (i : Int) < (n : Int) := by omega
    clear hx hid FI S0' hn
    go_wp2_with fail
    refine bodyPost_ret (v := .tuple #[.int .u64 x2, .int .i64 0]) ?_ rfl ⟨x2, 0, rfl, HA.out, Below.refl _ _⟩
    simp [results, Try.results18, go_sem]
theorem tvs_cut (x : Int × Int) (t : List (Int × Int)) : (tvs (x :: t)).drop (1 * 2) = tvs t := rfl
theorem rwGo_c (h : RWR r now l w S) (hlen : l.length ≤ 1000) {u : Int} (h1 : now ≤ u) (h2 : u < 4611686018427387904) {m : Nat} (hg : GoT l u m) :
    Calls Try.prog 15 #[.pointer (some ⟨r, 0, none⟩), .int .u64 u] w fun e w' => ∃ B cb, e = .returned (.tuple #[.slice B m cb, .int .i64 0]) ∧ St w S w' [RWR r u (l.drop m), LisR 3 1 (.slice B m cb) m (iv ((l.take m).map Prod.fst))] := by
  obtain ⟨iI, hiI, hzI, hsI, hbI⟩ := info3w YtklajkjmecfkpaaiI
  obtain ⟨A, c, hr⟩ := h
  have q9 := ((St.start hr).blk 0 rfl).two.2
  have hm1000 : m ≤ 1000 := by have := hg.1; omega
  have HG := Lib.hid hg
  have d1 : decide (4611686018427387904 ≤ u) = false := decide_eq_false (by omega)
  have d2 : decide (u < now) = false := decide_eq_false (by omega)
  have S0' := Lib.hid (show St w S w [BlkR r 30 #[.slice A (l.length - 0) c, .int .u64 now], LisR 63 2 (.slice A (l.length - 0) c) (l.length - 0) (tvs (l.drop 0)), LisR 3 1 (.slice none 0 0) 0 (iv ((l.take 0).map Prod.fst))] from (St.start hr).lis_nil 3 1)
  clear hr hg
  go_enter Try.func15, Try.ntmps15
  go_wp2_with fail
  go_loopw [6] (fun x wr => ∃ (k : Nat) (B : Option Addr) (cb : Nat) (A : Option Addr) (c : Nat), k ≤ m ∧ x = .slice B k cb ∧ St w S wr [BlkR r 30 #[.slice A (l.length - k) c, .int .u64 now], LisR 63 2 (.slice A (l.length - k) c) (l.length - k) (tvs (l.drop k)), LisR 3 1 (.slice B k cb) k (iv ((l.take k).map Prod.fst))]) (fun x _ => match x with | .slice _ k _ => m - k | _ => 0)
  case atStart => exact ⟨0, none, 0, A, c, by omega, rfl, S0'.out⟩
  case round =>
  clear S0' q9 A c
  obtain ⟨k, B, cb, A, c, hk, rfl, sr⟩ := hrel
  have q0 := (sr.blk 0 rfl).two.1
  have q1 := (sr.blk 0 rfl).two.2
  have q2 := (sr.blk 0 rfl).frozen 0
  have q3 := (sr.blk 0 rfl).frozen 1
  have SR := Lib.hid sr
  clear sr
  by_cases hlt : k < m
  · have hkl : k < l.length := by have := HG.out.1; omega
    obtain ⟨x, hx⟩ : ∃ x, l[k]? = some x := ⟨_, List.getElem?_eq_getElem hkl⟩
    have hxu := HG.out.2.1 x (by
      refine List.mem_of_getElem? (i := k) ?_
      rw [List.getElem?_take_of_lt hlt]; exact hx)
    have hdk : l.drop k = x :: l.drop (k + 1) := by
      rw [List.drop_eq_getElem_cons hkl]
      congr 1
      exact Option.some.inj ((List.getElem?_eq_getElem hkl).symm.trans hx)
    have HTK := Lib.hid (show iv ((l.take k).map Prod.fst) ++ [.int .i64 x.1] = iv ((l.take (k + 1)).map Prod.fst) by
      rw [List.take_add_one, hx, List.map_append, iv_app]; rfl)
    obtain ⟨n, hn⟩ : ∃ n, l.length - k = n := ⟨_, rfl⟩
    have hn1 : l.length - (k + 1) = n - 1 := by omega
    have hn0 : 0 < n := by omega
    have hn10 : n ≤ 1000 := by omega
    have HN1 := Lib.hid hn1
    have sr := SR.out
    rw [hn, hdk] at sr
    rw [hn] at q0
    have ls := sr.lis 1 rfl
    have hcap : n ≤ c ∧ c ≤ maxLen := by
      obtain ⟨A', c', hv, h1, h2⟩ := ls.shape
      injection hv with _ _ hv
      subst hv; exact ⟨h1, h2⟩
    unfold maxLen at hcap
    rcases ls.reads.2 with h0 | ⟨b, off, rfl, hc⟩
    · omega
    have e0 : wr.cell? ⟨b, off, none⟩ = some (.int .i64 x.1) := hc 0 _ rfl
    have e1 : wr.cell? ⟨b, off + 1, none⟩ = some (.int .u64 x.2) := hc 1 _ rfl
    obtain ⟨x1, x2⟩ := x
    dsimp only at e0 e1 hxu HTK
    have y0 : decide ((0 : Int) < (n : Int)) = true := decide_eq_true (by omega)
    have y0' : decide (0 < n) = true := decide_eq_true hn0
    have y1 : decide (x2 ≤ u) = true := decide_eq_true hxu
    have y2 : (0 : Int) < (n : Int) := by omega
    have y3 : (1 : Int) ≤ (n : Int) := by omega
    have S2 := Lib.hid sr
    have s3 := sr.lis_new 3 1 1 #[.int .i64 x1] rfl (by unfold maxLen; omega)
    have S3 := Lib.hid s3
    have HL := Lib.hid (s3.lis 2 rfl)
    have HR := Lib.hid (s3.lis 3 rfl).reads
    clear sr ls hc hx hdk hn hn1 s3 hxu hkl SR
    go_wp2_with (at_builtin; refine wpList_lis rfl (.tmp 32) (.tmp 40) 36 rfl 3 iI (.int .i64 0) 1 8 Try.underlying36 hiI hzI hsI hbI rfl (by decide) _ _ _ rfl HL.out (some ⟨wr.heap.size, 0, none⟩) 1 1 [.int .i64 x1] rfl HR.out (by simp [Value.oneCell']) (by unfold maxLen; omega) (by omega) ?_; intro B4 cap4 w4 hl4 hg4 hat4; have s4 := (S3.out.lis_put 2 rfl hl4 hg4 hat4).take 3; rw [HTK.out] at s4; have q4 := (s4.blk 0 rfl).two.1; have q5 := (s4.blk 0 rfl).frozen 0; have S4 := Lib.hid s4; clear hl4 hg4 hat4 s4)
    have s5 := (S4.out.lis_as 1 rfl ((S4.out.lis 1 rfl).cut (show 1 ≤ n by omega)) cut_block).set_ 0 rfl 0 (.slice (if c = 1 then some ⟨b, off, none⟩ else some ⟨b, off + 2, none⟩) (n - 1) (c - 1))
    simp only [Option.map_some, Go.WideShapes.add_plain, Nat.one_mul] at s5
    have S5 := Lib.hid s5
    clear s5
    go_roundw
    case rel => exact ⟨k + 1, B4, cap4, (if c = 1 then some ⟨b, off, none⟩ else some ⟨b, off + 2, none⟩), c - 1, by omega, rfl, by rw [HN1.out]; exact S5.out⟩
    case measure => simp; omega
  · obtain rfl : k = m := by omega
    have FIN := Lib.hid (show ∃ S', Star [RWR r u (l.drop k), LisR 3 1 (.slice B k cb) k (iv ((l.take k).map Prod.fst))] (wr.setCell ⟨r, 1, none⟩ (.int .u64 u)) S' ∧ Did S S' w (wr.setCell ⟨r, 1, none⟩ (.int .u64 u)) from by
      have s5 : St w S _ ([BlkR r 30 #[.slice A (l.length - k) c, .int .u64 u], LisR 63 2 (.slice A (l.length - k) c) (l.length - k) (tvs (l.drop k))] ++ [LisR 3 1 (.slice B k cb) k (iv ((l.take k).map Prod.fst))]) := SR.out.set_ 0 rfl 1 (.int .u64 u)
      rw [← List.length_drop] at s5
      exact (s5.comm.fold (RWR.ok r u (l.drop k)) fun S' h => ⟨A, c, h⟩).comm)
    by_cases hkl : k < l.length
    · obtain ⟨x, hx⟩ : ∃ x, l[k]? = some x := ⟨_, List.getElem?_eq_getElem hkl⟩
      have hxu := HG.out.2.2 x hx
      have hdk : l.drop k = x :: l.drop (k + 1) := by
        rw [List.drop_eq_getElem_cons hkl]
        congr 1
        exact Option.some.inj ((List.getElem?_eq_getElem hkl).symm.trans hx)
      obtain ⟨n, hn⟩ : ∃ n, l.length - k = n := ⟨_, rfl⟩
      have hn0 : 0 < n := by omega
      have hn10 : n ≤ 1000 := by omega
      have sr := SR.out
      rw [hn, hdk] at sr
      rw [hn] at q0
      have ls := sr.lis 1 rfl
      rcases ls.reads.2 with h0 | ⟨b, off, rfl, hc⟩
      · omega
      have e1 : wr.cell? ⟨b, off + 1, none⟩ = some (.int .u64 x.2) := hc 1 _ rfl
      have y0 : decide ((0 : Int) < (n : Int)) = true := decide_eq_true (by omega)
      have y0' : decide (0 < n) = true := decide_eq_true hn0
      have y1 : decide (x.2 ≤ u) = false := decide_eq_false (by omega)
      have y2 : (0 : Int) < (n : Int) := by omega
      clear sr ls hc hx hdk hn hxu hkl SR
      go_wp2_with fail
      go_ret2
      exact ⟨B, cb, rfl, FIN.out⟩
    · rw [show l.length - k = 0 by omega] at q0
      clear SR
      go_wp2_with fail
      go_ret2
      exact ⟨B, cb, rfl, FIN.out⟩
end
end Go.Proofs.Ytklajkjmecfkpaa
