/- Layer 3: a new heap; settling; putting. -/
import Derived.Test.YtncoeoccdimgoaaHeapG
namespace Go.Proofs.Ytncoeoccdimgoaa
open Go.RowKit
set_option linter.unusedVariables false
set_option maxRecDepth 100000
set_option maxHeartbeats 1000000
theorem Try.infoHI : (Try.prog.info? 3).map (fun i => (i.zero, i.size, i.bytes)) = some (some (.int .i64 0), 1, 8) := by kernel_rfl
theorem Try.infoHM : (Try.prog.info? 58).map (fun i => (i.zero, i.size, i.bytes)) = some (some (.agg #[.int .i64 0, .int .u64 0]), 2, 16) := by kernel_rfl
theorem info3h {P : Program} {t : TypeId} {z : Value} {s b : Nat} (h : (P.info? t).map (fun i => (i.zero, i.size, i.bytes)) = some (some z, s, b)) : ∃ i, P.info? t = some i ∧ i.zero = some z ∧ i.size = s ∧ i.bytes = b := by
  cases hi : P.info? t with
  | none => rw [hi] at h; cases h
  | some i => rw [hi] at h; simp at h; exact ⟨i, rfl, h.1, h.2.1, h.2.2⟩
section
variable {w0 w : World} {S S0 : Nat → Prop} {N L : List Res} {h c pb n k : Nat} {A : Option Addr} {a : Nat → Mem} {pl : Nat → Int} {M : HM}
theorem St.call_ex {P : Program} {f : FuncId} {args : Array Value} {α : Type} {R : Res} {R' : α → Res} {Post : α → Ending → Prop} (c : ∀ w S, R w S → Calls P f args w fun e w' => ∃ x, Post x e ∧ ∃ S', R' x w' S' ∧ Did S S' w w') (ho : ∀ x, Ok (R' x))
    {w0 w : World} {S0 : Nat → Prop} {L : List Res} (h : St w0 S0 w L) (i : Nat) (hi : L[i]? = some R) : Calls P f args w fun e w' => ∃ x, Post x e ∧ St w0 S0 w' (L.set i (R' x)) := by
  obtain ⟨S, hs, hd⟩ := h
  have hl := (Star.ok L).lt hs
  obtain ⟨T, hT, hok, hTS, hput⟩ := hs.split hi
  refine (c w T hT).mono ?_
  rintro e w' ⟨x, hP, T', hT', hdid⟩
  refine ⟨x, hP, _, hput w' _ T' (ho x) hT' (fun b hb hn => hdid.block b (hl b hb) hn) (fun b hb => (hdid.own b hb).imp id fun h => fun h2 => by have := hl b h2; omega), ?_⟩
  exact ⟨hdid.os.trans hd.os, hdid.tape.trans hd.tape, hdid.output.trans hd.output, Nat.le_trans hd.size hdid.size,
    fun k hk hn => (hdid.block k (Nat.lt_of_lt_of_le hk hd.size) fun hkT => by rcases hd.own k (hTS k hkT) with h | h; exact hn h; omega).trans (hd.block k hk hn),
    fun b hb => by
      rcases hb with ⟨h1, _⟩ | h1
      · exact hd.own b h1
      · rcases hdid.own b h1 with h2 | h2
        · exact hd.own b (hTS b h2)
        · exact Or.inr (Nat.le_trans hd.size h2)⟩
theorem HOk.new {n : Nat} (h0 : 1 ≤ n) (h1 : n ≤ 1000) (pl : Nat → Int) (hp : ∀ i, i < n → pl i = -1) : HOk n 0 (fun _ => (0, 0)) pl (fun _ => none) :=
  ⟨h0, h1, fun i h0 hk => by omega, fun id x => ⟨(fun h => by cases h), (fun ⟨i, hi, _⟩ => by omega)⟩, (HM.cnt_none n).symm, ⟨fun i hi => by omega, fun id hid => Or.inl (hp id hid)⟩⟩
theorem New_o (H : St w0 S0 w L) (h0 : 1 ≤ n) (h1 : n ≤ 1000) :
    Calls Try.prog 10 #[.int .i64 n] w fun e w' => ∃ p, e = .returned (.tuple #[.pointer (some ⟨p, 0, none⟩), .int .i64 0]) ∧ St w0 S0 w' (L ++ [HeapR p n (fun _ => none)]) := by
  have d1 : decide ((n : Int) < 1) = false := decide_eq_false (by omega)
  have d2 : decide (1000 < (n : Int)) = false := decide_eq_false (by omega)
  have d2' : decide (1000 < n) = false := decide_eq_false (by omega)
  obtain ⟨iI, hiI, hzI, hsI, hbI⟩ := info3h Try.infoHI
  have mk := fun W => run_make_rowN (P := Try.prog) 52 3 iI (.int .i64 0) Try.underlying52 hiI hzI rfl hsI .i64 .i64 n (by rw [hbI]; omega) (by omega) W
  obtain ⟨g, hg⟩ : ∃ g, g = w.heap.size := ⟨_, rfl⟩
  have sm : St w0 S0 ((w.alloc (.cells (madeCells #[.int .i64 0] n) 3)).alloc (.cells #[.slice none 0 0, .slice (some ⟨w.heap.size, 0, none⟩) n n] 55)) (L ++ [ArrR w.heap.size 3 n (fun _ => .int .i64 0), BlkR (w.heap.size + 1) 55 #[.slice none 0 0, .slice (some ⟨w.heap.size, 0, none⟩) n n]]) := by
    have t := (H.made_row 3 n (.int .i64 0)).box 55 #[.slice none 0 0, .slice (some ⟨w.heap.size, 0, none⟩) n n]
    rw [List.append_assoc, show (w.alloc (.cells (madeCells #[.int .i64 0] n) 3)).heap.size = w.heap.size + 1 by simp] at t
    exact t
  have SM := Lib.hid sm
  clear sm H hg
  go_enter Try.func10, Try.ntmps10
  go_wp2_with fail
  have q0 := (SM.out.blk (L.length + 1) (by rw [List.getElem?_append_right (by omega), Nat.add_sub_cancel_left]; rfl)).two.2
  go_wp2_with fail
  generalize w.heap.size = b at *
  go_loopw [21] (fun t wr => ∃ i : Nat, t = .int .i64 (i : Int) ∧ i ≤ n ∧ St w0 S0 wr (L ++ [ArrR b 3 n (fun j => if j < i then .int .i64 (-1) else .int .i64 0), BlkR (b + 1) 55 #[.slice none 0 0, .slice (some ⟨b, 0, none⟩) n n]])) (fun t _ => n - (intOf t).toNat)
  case atStart => exact ⟨0, rfl, by omega, by simpa using SM.out⟩
  case round =>
  clear q0 SM
  obtain ⟨i, rfl, hi, sr⟩ := hrel
  have q0 := (sr.blk (L.length + 1) (by rw [List.getElem?_append_right (by omega), Nat.add_sub_cancel_left]; rfl)).two.2
  by_cases hlt : i < n
  · have z1 : decide ((i : Int) < (n : Int)) = true := decide_eq_true (by omega)
    have z1' : decide (i < n) = true := decide_eq_true hlt
    have q1 := sr.arr_cell L.length (by rw [List.getElem?_append_right (by omega), Nat.sub_self]; rfl) hlt
    rw [if_neg (by omega)] at q1
    have f1 := sr.arr_frozen L.length (by rw [List.getElem?_append_right (by omega), Nat.sub_self]; rfl) i
    have s2 := sr.arr_set L.length (by rw [List.getElem?_append_right (by omega), Nat.sub_self]; rfl) hlt (.int .i64 (-1))
    have s3 := s2.arr_like L.length (by rw [List.set_append_right _ _ (by omega), List.getElem?_append_right (by omega), Nat.sub_self]; rfl) (V' := fun j => if j < i + 1 then .int .i64 (-1) else .int .i64 0) (fun j hj => by
      by_cases e : j = i
      · subst e; simp
      · by_cases e2 : j < i
        · simp [e, e2, show j < i + 1 by omega]
        · simp [e, e2, show ¬ j < i + 1 by omega])
    rw [List.set_append_right _ _ (by omega), List.set_append_right _ _ (by omega), Nat.sub_self] at s3
    have S3 := Lib.hid s3
    clear s2 s3 sr
    go_wp2_with fail
    go_roundw
    case rel => exact ⟨i + 1, by go_num, by omega, S3.out⟩
    case measure => simp [intOf]; omega
  · obtain rfl : i = n := by omega
    have z1 : decide ((i : Int) < (i : Int)) = false := decide_eq_false (by omega)
    have z1' : decide (i < i) = false := decide_eq_false (by omega)
    have s3 := sr.arr_like L.length (by rw [List.getElem?_append_right (by omega), Nat.sub_self]; rfl) (V' := fun _ => .int .i64 (-1)) (fun j hj => by simp [hj])
    rw [List.set_append_right _ _ (by omega), Nat.sub_self] at s3
    have s4 := s3.lis_nil 58 2
    rw [List.append_assoc] at s4
    have s5 := s4.fold (R := HeapR (b + 1) i (fun _ => none)) (HeapR.ok _ _ _) fun S hh => ⟨none, 0, b, 0, fun _ => (0, 0), fun _ => -1, HOk.new h0 h1 _ (fun _ _ => rfl), by
      have h2 := Star.comm (A := [ArrR _ _ _ _]) (B := [BlkR _ _ _, LisR _ _ _ _ _]) hh
      exact h2⟩
    have S5 := Lib.hid s5
    clear s3 s4 s5 sr
    go_wp2_with fail
    go_ret2
    exact ⟨_, rfl, S5.out⟩
theorem New_no (z : Int) (hz : z < 1 ∨ 1000 < z) (w : World) :
    Calls Try.prog 10 #[.int .i64 z] w fun e w' => e = .returned (.tuple #[.pointer none, .int .i64 1]) ∧ w = w' := by
  by_cases h1 : z < 1
  · have d1 : decide (z < 1) = true := decide_eq_true h1
    clear hz
    go_enter Try.func10, Try.ntmps10
    go_wp2_with fail
    go_ret2
    exact ⟨rfl, rfl⟩
  · have d1 : decide (z < 1) = false := decide_eq_false h1
    have d2 : decide (1000 < z) = true := decide_eq_true (by omega)
    clear hz
    go_enter Try.func10, Try.ntmps10
    go_wp2_with fail
    go_ret2
    exact ⟨rfl, rfl⟩
theorem settle_c {b off : Nat} (s : HSR h b off c pb n k a w S) {p : Nat} (hp : p < k) (hk : k ≤ n) (hn : n ≤ 1000) (hu : Up a k p) :
    Calls Try.prog 25 #[.pointer (some ⟨h, 0, none⟩), .int .i64 (p : Nat)] w fun e w' => ∃ a', (e = .returned (.tuple #[]) ∧ Hp a' k ∧ Keep a a' k) ∧ ∃ S', HSR h b off c pb n k a' w' S' ∧ Did S S' w w' := by
  have s0 : St w S w [HSR h b off c pb n k a] := St.start (Star.one (HSR.ok h b off c pb n k a) s)
  have W1 := Lib.hid (St.call_ex (α := Nat × (Nat → Mem)) (R' := fun x => HSR h b off c pb n k x.2) (Post := fun x e => e = .returned (.int .i64 (x.1 : Nat)) ∧ x.1 < k ∧ Dn x.2 k x.1 ∧ Keep a x.2 k)
    (fun w S s => (walk_up s hp hk hn hu).mono fun e w' ⟨q, a', h1, h2⟩ => ⟨(q, a'), h1, h2⟩) (fun x => HSR.ok _ _ _ _ _ _ _ _) s0 0 rfl)
  clear s s0 hu
  go_enter Try.func25, Try.ntmps25
  go_wp2_with fail
  refine W1.out.mono ?_
  rintro e w1 ⟨⟨q, a'⟩, ⟨rfl, hq, hd, hkp⟩, s1⟩
  dsimp only at hq hd hkp s1
  have W2 := Lib.hid (St.call_ex (α := Nat × (Nat → Mem)) (R' := fun x => HSR h b off c pb n k x.2) (Post := fun x e => e = .returned (.int .i64 (x.1 : Nat)) ∧ Hp x.2 k ∧ Keep a' x.2 k)
    (fun w S s => (walk_down s hq hk hn hd).mono fun e w' ⟨q, a', h1, h2⟩ => ⟨(q, a'), h1, h2⟩) (fun x => HSR.ok _ _ _ _ _ _ _ _) s1 0 rfl)
  have HK := Lib.hid hkp
  clear W1 hd hkp s1
  go_wp2_with fail
  refine W2.out.mono ?_
  rintro e w2 ⟨⟨q2, a2⟩, ⟨rfl, hh, hkp2⟩, s2⟩
  dsimp only at hh hkp2 s2
  have S2 := Lib.hid s2
  have HH := Lib.hid hh
  have HK2 := Lib.hid hkp2
  clear W2 hh hkp2 s2
  go_wp2_with fail
  go_end0
  exact ⟨a2, ⟨rfl, HH.out, fun M hM => HK2.out M (HK.out M hM)⟩, S2.out.fin fun S' h => star_one h⟩
end
end Go.Proofs.Ytncoeoccdimgoaa
