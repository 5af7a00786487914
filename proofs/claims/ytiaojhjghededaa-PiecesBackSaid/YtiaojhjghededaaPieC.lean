/- Layer 8: whether a list may be. -/
import Derived.Test.YtiaojhjghededaaPieB
import Derived.Deep.RegionHeld3
namespace Go.Proofs.Ytiaojhjghededaa
open Go.RowKit
set_option linter.unusedVariables false
set_option maxRecDepth 100000
set_option maxHeartbeats 4000000
/-- A list is not among what turns. -/
def notIn (A : Option Addr) (S0 : Nat → Prop) : Prop := ∀ g o, A = some ⟨g, o, none⟩ → ¬ S0 g
theorem St.rdp {w0 w' : World} {S0 : Nat → Prop} {L : List Res} {A : Option Addr} {ps : List Pc} (h : St w0 S0 w' L) (hR : RdP w0 A ps) (hN : notIn A S0) : RdP w' A ps := fun i p hp => by
  obtain ⟨g, o, e, h1, h2, h3, h4, h5⟩ := hR i p hp
  obtain ⟨S, _, hd⟩ := h
  have hc : ∀ k, w'.cell? ⟨g, k, none⟩ = w0.cell? ⟨g, k, none⟩ := fun k => World.cell?_of_block (w := w0) (hd.block g h1 (hN g o e))
  exact ⟨g, o, e, Nat.lt_of_lt_of_le h1 hd.size, (hc _).trans h2, (hc _).trans h3, (hc _).trans h4, (hc _).trans h5⟩
theorem RdP.take {w : World} {A : Option Addr} {ps : List Pc} (h : RdP w A ps) (k : Nat) : RdP w A (ps.take k) := fun i p hp => by
  have hi : i < (ps.take k).length := (List.getElem?_eq_some_iff.1 hp).1
  rw [List.length_take] at hi
  rw [List.getElem?_take_of_lt (by omega)] at hp
  exact h i p hp
theorem fit_sm {n : Nat} {st : Nat → Buf} {p : Pc} {G : Int} (ok : POK n st G) (h : fitP n st p = true) : p.sm := by
  obtain ⟨h1, h2, h3, _⟩ := fitP_bd ok h
  exact ⟨⟨h1, by omega⟩, by omega, by omega⟩
section
variable {w0 w : World} {S0 : Nat → Prop} {L : List Res} {p n : Nat} {st : Nat → Buf} {G : Int}
theorem set_same' {L : List Res} {i : Nat} {R : Res} (h : L[i]? = some R) : L.set i R = L := by
  apply List.ext_getElem?
  intro j
  by_cases e : i = j
  · subst e; rw [List.getElem?_set_self (List.getElem?_eq_some_iff.1 h).1, h]
  · rw [List.getElem?_set_ne e]
theorem may_o8 (H : St w0 S0 w L) (i : Nat) (hi : L[i]? = some (PoolR p n st)) (ok : POK n st G) (A : Option Addr) (cap : Nat) (ps : List Pc) (hlen : ps.length ≤ cap) (hcap : cap ≤ maxLen) (hR : RdP w0 A ps) (hN : notIn A S0) :
    Calls Try.prog 9 #[.pointer (some ⟨p, 0, none⟩), .slice A ps.length cap] w fun e w' => e = .returned (.bool (mayL n st ps)) ∧ St w0 S0 w' L := by
  unfold maxLen at hcap
  obtain ⟨B, hBe⟩ : ∃ B, mayL n st ps = B := ⟨_, rfl⟩
  rw [hBe]
  have HBE := Lib.hid hBe
  have HH := Lib.hid H
  clear hBe H
  by_cases hl1 : ps.length < 1
  · have z1 : decide ((ps.length : Int) < 1) = true := decide_eq_true (by omega)
    obtain rfl : B = false := HBE.out.symm.trans (by unfold mayL; rw [decide_eq_false (by omega)]; rfl)
    go_enter Try.func9, Try.ntmps9
    go_wp2
    go_ret
    exact ⟨rfl, HH.out⟩
  have z1 : decide ((ps.length : Int) < 1) = false := decide_eq_false (by omega)
  by_cases hl2 : 16 < ps.length
  · have z2 : decide ((16 : Int) < (ps.length : Int)) = true := decide_eq_true (by omega)
    obtain rfl : B = false := HBE.out.symm.trans (by unfold mayL; rw [decide_eq_false (by omega)]; rfl)
    go_enter Try.func9, Try.ntmps9
    go_wp2
    go_ret
    exact ⟨rfl, HH.out⟩
  have z2 : decide ((16 : Int) < (ps.length : Int)) = false := decide_eq_false (by omega)
  have HB2 := Lib.hid (show mayG n st [] ps = B by rw [← HBE.out]; unfold mayL; rw [decide_eq_true (by omega)]; rfl)
  have HOK := Lib.hid ok
  have HI := Lib.hid hi
  have HRR := Lib.hid hR
  have HNN := Lib.hid hN
  clear HBE hi hR hN ok
  go_enter Try.func9, Try.ntmps9
  go_wp2
  go_loopw [5, 6, 17] (fun _ _ x17 wr => ∃ k : Nat, k ≤ ps.length ∧ x17 = .int .i64 (k : Int) ∧ mayG n st (ps.take k) (ps.drop k) = B ∧ (∀ q ∈ ps.take k, fitP n st q = true) ∧ St w0 S0 wr L) (fun _ _ x17 _ => ps.length - (intOf x17).toNat)
  case atStart => exact ⟨0, Nat.zero_le _, rfl, HB2.out, fun q hq => (by cases hq), HH.out⟩
  case round =>
  obtain ⟨k, hk, rfl, hmg, hfs, hst⟩ := hrel
  by_cases hlt : k < ps.length
  rotate_left 1
  · obtain rfl : k = ps.length := by omega
    have z0 : decide ((ps.length : Int) < (ps.length : Int)) = false := decide_eq_false (by omega)
    rw [List.drop_length] at hmg
    obtain rfl : B = true := hmg.symm
    have HST := Lib.hid hst
    clear hst hfs hmg
    go_wp2
    go_ret
    exact ⟨rfl, HST.out⟩
  obtain ⟨c, hc⟩ : ∃ c, ps[k]? = some c := ⟨ps[k]'hlt, List.getElem?_eq_getElem hlt⟩
  obtain ⟨g, off, hA, hg, d0, d1, d2, d3⟩ := (hst.rdp HRR.out HNN.out) k c hc
  have hA' := hA
  have z0 : decide ((k : Int) < (ps.length : Int)) = true := decide_eq_true (by omega)
  have e0 : ps.drop k = c :: ps.drop (k + 1) := by
    rw [List.drop_eq_getElem_cons hlt]
    congr 1
    have := List.getElem?_eq_getElem hlt
    rw [hc] at this
    injection this with this
    exact this.symm
  have e1 : ps.take (k + 1) = ps.take k ++ [c] := by rw [List.take_add_one, hc]; rfl
  have hst2 := hst.box 42 #[.int .i64 c.s, .int .u64 c.g, .int .i64 c.f, .int .i64 c.m]
  have hiB : (L ++ [BlkR wr.heap.size 42 #[.int .i64 c.s, .int .u64 c.g, .int .i64 c.f, .int .i64 c.m]])[i]? = some (PoolR p n st) := by
    rw [List.getElem?_append_left (List.getElem?_eq_some_iff.1 HI.out).1]; exact HI.out
  have hlB : (L ++ [BlkR wr.heap.size 42 #[.int .i64 c.s, .int .u64 c.g, .int .i64 c.f, .int .i64 c.m]])[L.length]? = some (BlkR wr.heap.size 42 #[.int .i64 c.s, .int .u64 c.g, .int .i64 c.f, .int .i64 c.m]) := by simp
  have KF := Lib.hid (fitp_o hst2.drew i hiB HOK.out c)
  have CE := Lib.hid (fun (W : World) (K : St w0 S0 W (L ++ [BlkR wr.heap.size 42 #[.int .i64 c.s, .int .u64 c.g, .int .i64 c.f, .int .i64 c.m]])) => (K.blk L.length hlB).four)
  have FIN := Lib.hid (fun (W : World) (K : St w0 S0 W (L ++ [BlkR wr.heap.size 42 #[.int .i64 c.s, .int .u64 c.g, .int .i64 c.f, .int .i64 c.m]])) => show St w0 S0 W L from by have := K.take L.length; simpa using this)
  obtain ⟨p0, p1, p2, p3⟩ := CE.out _ hst2
  rw [e0] at hmg
  unfold mayG at hmg
  obtain ⟨ff, hff⟩ : ∃ ff, fitP n st c = ff := ⟨_, rfl⟩
  rw [hff] at hmg KF
  have k0 : (0 : Int) ≤ (k : Int) := by omega
  have k1 : (k : Int) ≤ (cap : Int) := by omega
  have HFS := Lib.hid hfs
  have HST := Lib.hid hst
  clear hst hst2 hiB hlB hfs e0
  cases ff with
  | false =>
    obtain rfl : B = false := hmg.symm
    subst hA
    clear hmg e1 hff HFS
    go_wp2
    refine wp_region_held_drew (S := (fun V => V.cell? ⟨wr.heap.size, 0, none⟩ = some (.int .i64 c.s) ∧ V.cell? ⟨wr.heap.size, 1, none⟩ = some (.int .u64 c.g) ∧ V.cell? ⟨wr.heap.size, 2, none⟩ = some (.int .i64 c.f) ∧ V.cell? ⟨wr.heap.size, 3, none⟩ = some (.int .i64 c.m))) (by kernel_rfl) ?_ (fun hHeld => ?_)
    · (try dsimp only); go_keep
    refine wpAnyH_take (i := 0) (oi := { dst := some 22, op := Op.move (Operand.tmp 0), type := 25, pos := "pieces.go:20", after := #[], guard := none }) (v := ?_) rfl (by kernel_rfl) (by kernel_rfl) (by kernel_rfl) (fun _ _ _ h => h) (Or.inl ⟨by rfl, ?_⟩) hHeld ?_
    rotate_left
    · intro wz hSw; (try dsimp only at hSw); go_simp; try (with_reducible rfl)
    try simp only [Act.put, List.setIfInBounds_toArray, List.set_cons_zero, List.set_cons_succ]
    refine wpAnyH_take (i := 1) (oi := { dst := some 23, op := Op.load 42 (Operand.tmp 6), type := 42, pos := "pieces.go:20", after := #[], guard := none }) (v := ?_) rfl (by kernel_rfl) (by kernel_rfl) (by kernel_rfl) (fun _ _ _ h => h) (Or.inl ⟨by rfl, ?_⟩) hHeld ?_
    rotate_left
    · intro wz hSw; (try dsimp only at hSw); go_simp; try (with_reducible rfl)
    try simp only [Act.put, List.setIfInBounds_toArray, List.set_cons_zero, List.set_cons_succ]
    refine wpAnyH_ready (rs := [2]) (by kernel_rfl) (by simp) ?_
    refine AllReadyH.cons (o := { dst := some 24, op := Op.call { callee := Callee.value (Operand.func 23), args := #[Operand.tmp 22, Operand.tmp 23], argTypes := #[25, 42] }, type := 4, pos := "pieces.go:20", after := #[{ on := 0, ground := Ground.data }, { on := 1, ground := Ground.data }], guard := none }) rfl (fun K hK => ?_) AllReadyH.nil
    go_simp
    refine KF.out.mono ?_
    rintro e w1 ⟨rfl, s1⟩
    have q1 := CE.out _ s1
    have S1 := Lib.hid (FIN.out _ s1)
    clear s1
    go_wp2_with fail
    refine hK.out _ _ ?_ (fun hHeld => ?_)
    · exact q1
    clear hK K
    try simp only [Act.put, List.setIfInBounds_toArray, List.set_cons_zero, List.set_cons_succ]
    refine wpAnyH_take (i := 3) (oi := { dst := some 25, op := Op.unOp UnOp.not 4 (Operand.tmp 24), type := 4, pos := "pieces.go:20", after := #[{ on := 2, ground := Ground.data }], guard := none }) (v := ?_) rfl (by kernel_rfl) (by kernel_rfl) (by kernel_rfl) (fun _ _ _ h => h) (Or.inl ⟨by rfl, ?_⟩) hHeld ?_
    rotate_left
    · intro wz hSw; (try dsimp only at hSw); go_simp; try (with_reducible rfl)
    try simp only [Act.put, List.setIfInBounds_toArray, List.set_cons_zero, List.set_cons_succ]
    refine wpAnyH_take (i := 4) (oi := { dst := some 26, op := Op.move (Operand.tmp 25), type := 4, pos := "pieces.go:20", after := #[{ on := 3, ground := Ground.data }, { on := 2, ground := Ground.chain }], guard := none }) (v := ?_) rfl (by kernel_rfl) (by kernel_rfl) (by kernel_rfl) (fun _ _ _ h => h) (Or.inl ⟨by rfl, ?_⟩) hHeld ?_
    rotate_left
    · intro wz hSw; (try dsimp only at hSw); go_simp; try (with_reducible rfl)
    try simp only [Act.put, List.setIfInBounds_toArray, List.set_cons_zero, List.set_cons_succ]
    refine wpAnyH_take (i := 5) (oi := { dst := some 27, op := Op.load 42 (Operand.tmp 6), type := 42, pos := "pieces.go:20", after := #[{ on := 4, ground := Ground.guard }], guard := some (4, false) }) (v := undef) rfl (by kernel_rfl) (by kernel_rfl) (by kernel_rfl) (fun _ _ _ h => h) (Or.inr ⟨by rfl, rfl⟩) hHeld ?_
    try simp only [Act.put, List.setIfInBounds_toArray, List.set_cons_zero, List.set_cons_succ]
    refine wpAnyH_take (i := 6) (oi := { dst := some 28, op := Op.move (Operand.tmp 1), type := 22, pos := "pieces.go:20", after := #[{ on := 4, ground := Ground.guard }], guard := some (4, false) }) (v := undef) rfl (by kernel_rfl) (by kernel_rfl) (by kernel_rfl) (fun _ _ _ h => h) (Or.inr ⟨by rfl, rfl⟩) hHeld ?_
    try simp only [Act.put, List.setIfInBounds_toArray, List.set_cons_zero, List.set_cons_succ]
    refine wpAnyH_take (i := 7) (oi := { dst := some 29, op := Op.move (Operand.tmp 5), type := 3, pos := "pieces.go:20", after := #[{ on := 4, ground := Ground.guard }], guard := some (4, false) }) (v := undef) rfl (by kernel_rfl) (by kernel_rfl) (by kernel_rfl) (fun _ _ _ h => h) (Or.inr ⟨by rfl, rfl⟩) hHeld ?_
    try simp only [Act.put, List.setIfInBounds_toArray, List.set_cons_zero, List.set_cons_succ]
    refine wpAnyH_take (i := 8) (oi := { dst := some 30, op := Op.slice 22 (Operand.tmp 28) none (some (Operand.tmp 29)) none, type := 22, pos := "pieces.go:20", after := #[{ on := 6, ground := Ground.data }, { on := 7, ground := Ground.data }, { on := 4, ground := Ground.guard }], guard := some (4, false) }) (v := undef) rfl (by kernel_rfl) (by kernel_rfl) (by kernel_rfl) (fun _ _ _ h => h) (Or.inr ⟨by rfl, rfl⟩) hHeld ?_
    try simp only [Act.put, List.setIfInBounds_toArray, List.set_cons_zero, List.set_cons_succ]
    refine wpAnyH_take (i := 9) (oi := { dst := some 31, op := Op.call { callee := Callee.value (Operand.func 24), args := #[Operand.tmp 27, Operand.tmp 30], argTypes := #[42, 22] }, type := 4, pos := "pieces.go:20", after := #[{ on := 5, ground := Ground.data }, { on := 8, ground := Ground.data }, { on := 4, ground := Ground.chain }, { on := 4, ground := Ground.guard }], guard := some (4, false) }) (v := undef) rfl (by kernel_rfl) (by kernel_rfl) (by kernel_rfl) (fun _ _ _ h => h) (Or.inr ⟨by rfl, rfl⟩) hHeld ?_
    try simp only [Act.put, List.setIfInBounds_toArray, List.set_cons_zero, List.set_cons_succ]
    refine wpAnyH_take (i := 10) (oi := { dst := some 32, op := Op.pick (Operand.tmp 26) (Operand.const (Value.bool true)) (Operand.tmp 31), type := 4, pos := "pieces.go:20", after := #[{ on := 4, ground := Ground.data }, { on := 9, ground := Ground.data }], guard := none }) (v := ?_) rfl (by kernel_rfl) (by kernel_rfl) (by kernel_rfl) (fun _ _ _ h => h) (Or.inl ⟨by rfl, ?_⟩) hHeld ?_
    rotate_left
    · intro wz hSw; (try dsimp only at hSw); go_simp; try (with_reducible rfl)
    try simp only [Act.put, List.setIfInBounds_toArray, List.set_cons_zero, List.set_cons_succ]
    refine wpAnyH_done (by kernel_rfl) ?_ _
    go_wp2
    go_ret
    exact ⟨rfl, S1.out⟩
  | true =>
    have hcap0 : (ps.take k).length = k := by rw [List.length_take]; omega
    have KM := Lib.hid (fun (W : World) (h : St w0 S0 W (L ++ [BlkR wr.heap.size 42 #[.int .i64 c.s, .int .u64 c.g, .int .i64 c.f, .int .i64 c.m]])) => by have := meets_o c (fit_sm HOK.out hff) A cap (ps.take k) (fun o ho => fit_sm HOK.out (HFS.out o ho)) (by omega) W ((h.rdp HRR.out HNN.out).take k); rw [hcap0] at this; exact this)
    obtain ⟨mm, hmm⟩ : ∃ mm, (ps.take k).any (meetP c) = mm := ⟨_, rfl⟩
    rw [hmm] at KM hmg
    subst hA
    have HF2 := Lib.hid hff
    have HC := Lib.hid (show fitP n st c = true from hff)
    have E1 := Lib.hid e1
    clear hff e1 hcap0 hmm
    cases mm with
    | true =>
      obtain rfl : B = false := hmg.symm
      clear hmg
      go_wp2
      refine wp_region_held_drew (S := (fun V => V.cell? ⟨wr.heap.size, 0, none⟩ = some (.int .i64 c.s) ∧ V.cell? ⟨wr.heap.size, 1, none⟩ = some (.int .u64 c.g) ∧ V.cell? ⟨wr.heap.size, 2, none⟩ = some (.int .i64 c.f) ∧ V.cell? ⟨wr.heap.size, 3, none⟩ = some (.int .i64 c.m))) (by kernel_rfl) ?_ (fun hHeld => ?_)
      · (try dsimp only); go_keep
      refine wpAnyH_take (i := 0) (oi := { dst := some 22, op := Op.move (Operand.tmp 0), type := 25, pos := "pieces.go:20", after := #[], guard := none }) (v := ?_) rfl (by kernel_rfl) (by kernel_rfl) (by kernel_rfl) (fun _ _ _ h => h) (Or.inl ⟨by rfl, ?_⟩) hHeld ?_
      rotate_left
      · intro wz hSw; (try dsimp only at hSw); go_simp; try (with_reducible rfl)
      try simp only [Act.put, List.setIfInBounds_toArray, List.set_cons_zero, List.set_cons_succ]
      refine wpAnyH_take (i := 1) (oi := { dst := some 23, op := Op.load 42 (Operand.tmp 6), type := 42, pos := "pieces.go:20", after := #[], guard := none }) (v := ?_) rfl (by kernel_rfl) (by kernel_rfl) (by kernel_rfl) (fun _ _ _ h => h) (Or.inl ⟨by rfl, ?_⟩) hHeld ?_
      rotate_left
      · intro wz hSw; (try dsimp only at hSw); go_simp; try (with_reducible rfl)
      try simp only [Act.put, List.setIfInBounds_toArray, List.set_cons_zero, List.set_cons_succ]
      refine wpAnyH_ready (rs := [2]) (by kernel_rfl) (by simp) ?_
      refine AllReadyH.cons (o := { dst := some 24, op := Op.call { callee := Callee.value (Operand.func 23), args := #[Operand.tmp 22, Operand.tmp 23], argTypes := #[25, 42] }, type := 4, pos := "pieces.go:20", after := #[{ on := 0, ground := Ground.data }, { on := 1, ground := Ground.data }], guard := none }) rfl (fun K hK => ?_) AllReadyH.nil
      go_simp
      refine KF.out.mono ?_
      rintro e w1 ⟨rfl, s1⟩
      have q1 := CE.out _ s1
      have S1 := Lib.hid s1
      clear s1
      go_wp2_with fail
      refine hK.out _ _ ?_ (fun hHeld => ?_)
      · exact q1
      clear hK K
      try simp only [Act.put, List.setIfInBounds_toArray, List.set_cons_zero, List.set_cons_succ]
      refine wpAnyH_take (i := 3) (oi := { dst := some 25, op := Op.unOp UnOp.not 4 (Operand.tmp 24), type := 4, pos := "pieces.go:20", after := #[{ on := 2, ground := Ground.data }], guard := none }) (v := ?_) rfl (by kernel_rfl) (by kernel_rfl) (by kernel_rfl) (fun _ _ _ h => h) (Or.inl ⟨by rfl, ?_⟩) hHeld ?_
      rotate_left
      · intro wz hSw; (try dsimp only at hSw); go_simp; try (with_reducible rfl)
      try simp only [Act.put, List.setIfInBounds_toArray, List.set_cons_zero, List.set_cons_succ]
      refine wpAnyH_take (i := 4) (oi := { dst := some 26, op := Op.move (Operand.tmp 25), type := 4, pos := "pieces.go:20", after := #[{ on := 3, ground := Ground.data }, { on := 2, ground := Ground.chain }], guard := none }) (v := ?_) rfl (by kernel_rfl) (by kernel_rfl) (by kernel_rfl) (fun _ _ _ h => h) (Or.inl ⟨by rfl, ?_⟩) hHeld ?_
      rotate_left
      · intro wz hSw; (try dsimp only at hSw); go_simp; try (with_reducible rfl)
      try simp only [Act.put, List.setIfInBounds_toArray, List.set_cons_zero, List.set_cons_succ]
      refine wpAnyH_take (i := 5) (oi := { dst := some 27, op := Op.load 42 (Operand.tmp 6), type := 42, pos := "pieces.go:20", after := #[{ on := 4, ground := Ground.guard }], guard := some (4, false) }) (v := ?_) rfl (by kernel_rfl) (by kernel_rfl) (by kernel_rfl) (fun _ _ _ h => h) (Or.inl ⟨by rfl, ?_⟩) hHeld ?_
      rotate_left
      · intro wz hSw; (try dsimp only at hSw); go_simp; try (with_reducible rfl)
      try simp only [Act.put, List.setIfInBounds_toArray, List.set_cons_zero, List.set_cons_succ]
      refine wpAnyH_take (i := 6) (oi := { dst := some 28, op := Op.move (Operand.tmp 1), type := 22, pos := "pieces.go:20", after := #[{ on := 4, ground := Ground.guard }], guard := some (4, false) }) (v := ?_) rfl (by kernel_rfl) (by kernel_rfl) (by kernel_rfl) (fun _ _ _ h => h) (Or.inl ⟨by rfl, ?_⟩) hHeld ?_
      rotate_left
      · intro wz hSw; (try dsimp only at hSw); go_simp; try (with_reducible rfl)
      try simp only [Act.put, List.setIfInBounds_toArray, List.set_cons_zero, List.set_cons_succ]
      refine wpAnyH_take (i := 7) (oi := { dst := some 29, op := Op.move (Operand.tmp 5), type := 3, pos := "pieces.go:20", after := #[{ on := 4, ground := Ground.guard }], guard := some (4, false) }) (v := ?_) rfl (by kernel_rfl) (by kernel_rfl) (by kernel_rfl) (fun _ _ _ h => h) (Or.inl ⟨by rfl, ?_⟩) hHeld ?_
      rotate_left
      · intro wz hSw; (try dsimp only at hSw); go_simp; try (with_reducible rfl)
      try simp only [Act.put, List.setIfInBounds_toArray, List.set_cons_zero, List.set_cons_succ]
      refine wpAnyH_take (i := 8) (oi := { dst := some 30, op := Op.slice 22 (Operand.tmp 28) none (some (Operand.tmp 29)) none, type := 22, pos := "pieces.go:20", after := #[{ on := 6, ground := Ground.data }, { on := 7, ground := Ground.data }, { on := 4, ground := Ground.guard }], guard := some (4, false) }) (v := ?_) rfl (by kernel_rfl) (by kernel_rfl) (by kernel_rfl) (fun _ _ _ h => h) (Or.inl ⟨by rfl, ?_⟩) hHeld ?_
      rotate_left
      · intro wz hSw; (try dsimp only at hSw); go_simp; try (with_reducible rfl)
      try simp only [Act.put, List.setIfInBounds_toArray, List.set_cons_zero, List.set_cons_succ]
      refine wpAnyH_ready (rs := [9]) (by kernel_rfl) (by simp) ?_
      refine AllReadyH.cons (o := { dst := some 31, op := Op.call { callee := Callee.value (Operand.func 24), args := #[Operand.tmp 27, Operand.tmp 30], argTypes := #[42, 22] }, type := 4, pos := "pieces.go:20", after := #[{ on := 5, ground := Ground.data }, { on := 8, ground := Ground.data }, { on := 4, ground := Ground.chain }, { on := 4, ground := Ground.guard }], guard := some (4, false) }) rfl (fun K hK => ?_) AllReadyH.nil
      go_simp
      refine (KM.out _ S1.out).mono ?_
      rintro e w2 ⟨rfl, hb2⟩
      have s2 := S1.out.stay hb2
      have q2 := CE.out _ s2
      have S2 := Lib.hid (FIN.out _ s2)
      clear s2 hb2
      go_wp2_with fail
      refine hK.out _ _ ?_ (fun hHeld => ?_)
      · exact q2
      clear hK K
      try simp only [Act.put, List.setIfInBounds_toArray, List.set_cons_zero, List.set_cons_succ]
      refine wpAnyH_take (i := 10) (oi := { dst := some 32, op := Op.pick (Operand.tmp 26) (Operand.const (Value.bool true)) (Operand.tmp 31), type := 4, pos := "pieces.go:20", after := #[{ on := 4, ground := Ground.data }, { on := 9, ground := Ground.data }], guard := none }) (v := ?_) rfl (by kernel_rfl) (by kernel_rfl) (by kernel_rfl) (fun _ _ _ h => h) (Or.inl ⟨by rfl, ?_⟩) hHeld ?_
      rotate_left
      · intro wz hSw; (try dsimp only at hSw); go_simp; try (with_reducible rfl)
      try simp only [Act.put, List.setIfInBounds_toArray, List.set_cons_zero, List.set_cons_succ]
      refine wpAnyH_done (by kernel_rfl) ?_ _
      go_wp2
      go_ret
      exact ⟨rfl, S2.out⟩
    | false =>
      have HMG := Lib.hid hmg
      clear hmg
      go_wp2
      refine wp_region_held_drew (S := (fun V => V.cell? ⟨wr.heap.size, 0, none⟩ = some (.int .i64 c.s) ∧ V.cell? ⟨wr.heap.size, 1, none⟩ = some (.int .u64 c.g) ∧ V.cell? ⟨wr.heap.size, 2, none⟩ = some (.int .i64 c.f) ∧ V.cell? ⟨wr.heap.size, 3, none⟩ = some (.int .i64 c.m))) (by kernel_rfl) ?_ (fun hHeld => ?_)
      · (try dsimp only); go_keep
      refine wpAnyH_take (i := 0) (oi := { dst := some 22, op := Op.move (Operand.tmp 0), type := 25, pos := "pieces.go:20", after := #[], guard := none }) (v := ?_) rfl (by kernel_rfl) (by kernel_rfl) (by kernel_rfl) (fun _ _ _ h => h) (Or.inl ⟨by rfl, ?_⟩) hHeld ?_
      rotate_left
      · intro wz hSw; (try dsimp only at hSw); go_simp; try (with_reducible rfl)
      try simp only [Act.put, List.setIfInBounds_toArray, List.set_cons_zero, List.set_cons_succ]
      refine wpAnyH_take (i := 1) (oi := { dst := some 23, op := Op.load 42 (Operand.tmp 6), type := 42, pos := "pieces.go:20", after := #[], guard := none }) (v := ?_) rfl (by kernel_rfl) (by kernel_rfl) (by kernel_rfl) (fun _ _ _ h => h) (Or.inl ⟨by rfl, ?_⟩) hHeld ?_
      rotate_left
      · intro wz hSw; (try dsimp only at hSw); go_simp; try (with_reducible rfl)
      try simp only [Act.put, List.setIfInBounds_toArray, List.set_cons_zero, List.set_cons_succ]
      refine wpAnyH_ready (rs := [2]) (by kernel_rfl) (by simp) ?_
      refine AllReadyH.cons (o := { dst := some 24, op := Op.call { callee := Callee.value (Operand.func 23), args := #[Operand.tmp 22, Operand.tmp 23], argTypes := #[25, 42] }, type := 4, pos := "pieces.go:20", after := #[{ on := 0, ground := Ground.data }, { on := 1, ground := Ground.data }], guard := none }) rfl (fun K hK => ?_) AllReadyH.nil
      go_simp
      refine KF.out.mono ?_
      rintro e w1 ⟨rfl, s1⟩
      have q1 := CE.out _ s1
      have S1 := Lib.hid s1
      clear s1
      go_wp2_with fail
      refine hK.out _ _ ?_ (fun hHeld => ?_)
      · exact q1
      clear hK K
      try simp only [Act.put, List.setIfInBounds_toArray, List.set_cons_zero, List.set_cons_succ]
      refine wpAnyH_take (i := 3) (oi := { dst := some 25, op := Op.unOp UnOp.not 4 (Operand.tmp 24), type := 4, pos := "pieces.go:20", after := #[{ on := 2, ground := Ground.data }], guard := none }) (v := ?_) rfl (by kernel_rfl) (by kernel_rfl) (by kernel_rfl) (fun _ _ _ h => h) (Or.inl ⟨by rfl, ?_⟩) hHeld ?_
      rotate_left
      · intro wz hSw; (try dsimp only at hSw); go_simp; try (with_reducible rfl)
      try simp only [Act.put, List.setIfInBounds_toArray, List.set_cons_zero, List.set_cons_succ]
      refine wpAnyH_take (i := 4) (oi := { dst := some 26, op := Op.move (Operand.tmp 25), type := 4, pos := "pieces.go:20", after := #[{ on := 3, ground := Ground.data }, { on := 2, ground := Ground.chain }], guard := none }) (v := ?_) rfl (by kernel_rfl) (by kernel_rfl) (by kernel_rfl) (fun _ _ _ h => h) (Or.inl ⟨by rfl, ?_⟩) hHeld ?_
      rotate_left
      · intro wz hSw; (try dsimp only at hSw); go_simp; try (with_reducible rfl)
      try simp only [Act.put, List.setIfInBounds_toArray, List.set_cons_zero, List.set_cons_succ]
      refine wpAnyH_take (i := 5) (oi := { dst := some 27, op := Op.load 42 (Operand.tmp 6), type := 42, pos := "pieces.go:20", after := #[{ on := 4, ground := Ground.guard }], guard := some (4, false) }) (v := ?_) rfl (by kernel_rfl) (by kernel_rfl) (by kernel_rfl) (fun _ _ _ h => h) (Or.inl ⟨by rfl, ?_⟩) hHeld ?_
      rotate_left
      · intro wz hSw; (try dsimp only at hSw); go_simp; try (with_reducible rfl)
      try simp only [Act.put, List.setIfInBounds_toArray, List.set_cons_zero, List.set_cons_succ]
      refine wpAnyH_take (i := 6) (oi := { dst := some 28, op := Op.move (Operand.tmp 1), type := 22, pos := "pieces.go:20", after := #[{ on := 4, ground := Ground.guard }], guard := some (4, false) }) (v := ?_) rfl (by kernel_rfl) (by kernel_rfl) (by kernel_rfl) (fun _ _ _ h => h) (Or.inl ⟨by rfl, ?_⟩) hHeld ?_
      rotate_left
      · intro wz hSw; (try dsimp only at hSw); go_simp; try (with_reducible rfl)
      try simp only [Act.put, List.setIfInBounds_toArray, List.set_cons_zero, List.set_cons_succ]
      refine wpAnyH_take (i := 7) (oi := { dst := some 29, op := Op.move (Operand.tmp 5), type := 3, pos := "pieces.go:20", after := #[{ on := 4, ground := Ground.guard }], guard := some (4, false) }) (v := ?_) rfl (by kernel_rfl) (by kernel_rfl) (by kernel_rfl) (fun _ _ _ h => h) (Or.inl ⟨by rfl, ?_⟩) hHeld ?_
      rotate_left
      · intro wz hSw; (try dsimp only at hSw); go_simp; try (with_reducible rfl)
      try simp only [Act.put, List.setIfInBounds_toArray, List.set_cons_zero, List.set_cons_succ]
      refine wpAnyH_take (i := 8) (oi := { dst := some 30, op := Op.slice 22 (Operand.tmp 28) none (some (Operand.tmp 29)) none, type := 22, pos := "pieces.go:20", after := #[{ on := 6, ground := Ground.data }, { on := 7, ground := Ground.data }, { on := 4, ground := Ground.guard }], guard := some (4, false) }) (v := ?_) rfl (by kernel_rfl) (by kernel_rfl) (by kernel_rfl) (fun _ _ _ h => h) (Or.inl ⟨by rfl, ?_⟩) hHeld ?_
      rotate_left
      · intro wz hSw; (try dsimp only at hSw); go_simp; try (with_reducible rfl)
      try simp only [Act.put, List.setIfInBounds_toArray, List.set_cons_zero, List.set_cons_succ]
      refine wpAnyH_ready (rs := [9]) (by kernel_rfl) (by simp) ?_
      refine AllReadyH.cons (o := { dst := some 31, op := Op.call { callee := Callee.value (Operand.func 24), args := #[Operand.tmp 27, Operand.tmp 30], argTypes := #[42, 22] }, type := 4, pos := "pieces.go:20", after := #[{ on := 5, ground := Ground.data }, { on := 8, ground := Ground.data }, { on := 4, ground := Ground.chain }, { on := 4, ground := Ground.guard }], guard := some (4, false) }) rfl (fun K hK => ?_) AllReadyH.nil
      go_simp
      refine (KM.out _ S1.out).mono ?_
      rintro e w2 ⟨rfl, hb2⟩
      have s2 := S1.out.stay hb2
      have q2 := CE.out _ s2
      have S2 := Lib.hid (FIN.out _ s2)
      clear s2 hb2
      go_wp2_with fail
      refine hK.out _ _ ?_ (fun hHeld => ?_)
      · exact q2
      clear hK K
      try simp only [Act.put, List.setIfInBounds_toArray, List.set_cons_zero, List.set_cons_succ]
      refine wpAnyH_take (i := 10) (oi := { dst := some 32, op := Op.pick (Operand.tmp 26) (Operand.const (Value.bool true)) (Operand.tmp 31), type := 4, pos := "pieces.go:20", after := #[{ on := 4, ground := Ground.data }, { on := 9, ground := Ground.data }], guard := none }) (v := ?_) rfl (by kernel_rfl) (by kernel_rfl) (by kernel_rfl) (fun _ _ _ h => h) (Or.inl ⟨by rfl, ?_⟩) hHeld ?_
      rotate_left
      · intro wz hSw; (try dsimp only at hSw); go_simp; try (with_reducible rfl)
      try simp only [Act.put, List.setIfInBounds_toArray, List.set_cons_zero, List.set_cons_succ]
      refine wpAnyH_done (by kernel_rfl) ?_ _
      go_wp2
      go_roundw
      case rel =>
        refine ⟨k + 1, by omega, by go_num, ?_, ?_, S2.out⟩
        · have := HMG.out
          rw [E1.out]; exact this
        · rw [E1.out]
          intro q hq
          rcases List.mem_append.1 hq with hq | hq
          · exact HFS.out q hq
          · rw [List.mem_singleton.1 hq]; exact HC.out
      case measure => simp [intOf]; omega
end
end Go.Proofs.Ytiaojhjghededaa
