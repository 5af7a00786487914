/-
  For every two texts CallWords answers true, and changes nothing: of texts of at most 500 bytes no word has a blank, none is empty; lines one behind the other, with a blank between, have the words of both. Condition: the tables that the row lists hold what the program's text lays in them.
-/
import Derived.Test.YtgajcjacnnpfcaaDoorRows
import Derived.Test.YtgajcjacnnpfcaaDoorFr
import Derived.Test.YtgajcjacnnpfcaaDoorFrL
import Derived.Test.YtgajcjacnnpfcaaDoorCards
import Derived.Test.YtgajcjacnnpfcaaDoorTie
import Derived.SevenTiedAt
import Derived.Test.YtgajcjacnnpfcaaDoorCalU
import Derived.Deep.RegionHeld3
namespace Go.Proofs.YtgajcjacnnpfcaaDoor.callWords
open Go.ChangeShapes Go.WideShapes Go.ChangeAt Go.RowKit
set_option linter.unusedVariables false
theorem own : ownKnob Tryd.prog.godebug = none := by kernel_rfl
theorem laid : laidOutB Tryd.prog = true := by kernel_rfl
set_option maxHeartbeats 4000000
set_option maxRecDepth 100000
/-- What is held may be more. -/
theorem wpAnyH_less {P : Program} {md : Region.Mode} {ops : Array Oper} {Q : Exit → Act → World → Prop} {S S2 : World → Prop} (hs : ∀ w, S2 w → S w) : ∀ {fuel : Nat} {listed : Array Bool} {a : Act} {w : World}, wpAnyH P md ops Q S2 fuel listed a w → wpAnyH P md ops Q S fuel listed a w
  | 0, _, _, _, h => h
  | fuel + 1, _, _, _, h => ⟨h.1, fun i hi => wpOp_mono (fun a' w' h' => ⟨hs w' h'.1, wpAnyH_less hs h'.2⟩) (h.2 i hi)⟩
theorem stVs_one (ws : List (List UInt8)) : ∀ u ∈ stVs ws, u.oneCell' = true := fun u hu => by
  obtain ⟨l, _, rfl⟩ := List.mem_map.1 hu
  rfl
theorem stVs_app (a b : List (List UInt8)) : stVs a ++ stVs b = stVs (a ++ b) := by unfold stVs; rw [List.map_append]
theorem wfold_short : ∀ (k : Nat) (l : List UInt8), l.length = k → (∀ u ∈ (wfold l).1, u.length ≤ k) ∧ (wfold l).2.length ≤ k := by
  intro k
  induction k with
  | zero => intro l h; obtain rfl := List.length_eq_zero_iff.1 h; exact ⟨fun u hu => (by cases hu), Nat.le_refl _⟩
  | succ k ih =>
    intro l h
    rcases List.eq_nil_or_concat l with rfl | ⟨m, b, rfl⟩
    · cases h
    rw [List.concat_eq_append] at h ⊢
    obtain ⟨h1, h2⟩ := ih m (by simpa using h)
    rw [wfold_snoc]
    unfold wstep
    by_cases hb : isBl b = true
    · rw [if_pos hb]
      refine ⟨fun u hu => ?_, Nat.zero_le _⟩
      by_cases he : (wfold m).2 = []
      · rw [if_pos he] at hu; have := h1 u hu; omega
      · rw [if_neg he] at hu
        rcases List.mem_append.1 hu with hu | hu
        · have := h1 u hu; omega
        · rw [List.mem_singleton.1 hu]; omega
    · rw [if_neg hb]
      refine ⟨fun u hu => by have := h1 u hu; omega, ?_⟩
      show ((wfold m).2 ++ [b]).length ≤ _
      rw [List.length_append]
      show _ + 1 ≤ _
      omega
theorem words_short {l u : List UInt8} (h : u ∈ wordsB l) : u.length ≤ l.length := by
  obtain ⟨h1, h2⟩ := wfold_short _ l rfl
  rw [wfin] at h
  by_cases he : (wfold l).2 = []
  · rw [if_pos he] at h; exact h1 u h
  · rw [if_neg he] at h
    rcases List.mem_append.1 h with h | h
    · exact h1 u h
    · rw [List.mem_singleton.1 h]; exact h2
/-- Each word is a word. -/
theorem wordB_one {l : List UInt8} {u : List UInt8} (h : u ∈ wordsB l) : u ≠ [] ∧ wordsB u = [u] ∧ u.length ≤ l.length := by
  obtain ⟨h1, h2⟩ := words_good l u h
  exact ⟨h1, words_one h1 h2, words_short h⟩
theorem walk (a0 a1 : ByteArray) (W : World) (hT : TabB W.heap.size W) :
    Calls Tryd.prog 5 #[.string a0, .string a1] W fun e W' => e = .returned (.bool true) ∧ Below W.heap.size W W' := by
  obtain ⟨iS, hiS, hzS, hsS, hbS⟩ := info3c YtgajcjacnnpfcaaDooriS
  have KA := Lib.hid (awake_c W hT)
  clear hT
  by_cases h1 : (500 : Int) < (a0.size : Int)
  · have d1 : decide ((500 : Int) < (a0.size : Int)) = true := decide_eq_true h1
    go_enter Tryd.func5, Tryd.ntmps5
    go_wp2_with (go_at_call 8; refine KA.out.mono ?_; rintro e w1 ⟨rfl, hb1⟩)
    go_ret
    exact ⟨rfl, hb1⟩
  have d1 : decide ((500 : Int) < (a0.size : Int)) = false := decide_eq_false h1
  by_cases h2 : (500 : Int) < (a1.size : Int)
  · have d2 : decide ((500 : Int) < (a1.size : Int)) = true := decide_eq_true h2
    go_enter Tryd.func5, Tryd.ntmps5
    go_wp2_with (go_at_call 8; refine KA.out.mono ?_; rintro e w1 ⟨rfl, hb1⟩)
    go_ret
    exact ⟨rfl, hb1⟩
  have d2 : decide ((500 : Int) < (a1.size : Int)) = false := decide_eq_false h2
  have hs0 : a0.size ≤ 500 := by omega
  have hs1 : a1.size ≤ 500 := by omega
  have hx0 := words_len a0
  have hx1 := words_len a1
  have hcat : (a0 ++ (⟨#[13]⟩ : ByteArray) ++ a1).data.toList = a0.data.toList ++ 13 :: a1.data.toList := by
    rw [ByteArray.data_append, Array.toList_append, ByteArray.data_append, Array.toList_append]
    simp
  have hsz : (a0 ++ (⟨#[13]⟩ : ByteArray) ++ a1).size ≤ 1001 := by
    have e := congrArg List.length hcat
    rw [lst_len, List.length_append, List.length_cons, lst_len, lst_len] at e
    omega
  have KX := Lib.hid (fun w => words_o a0 w (by omega))
  have KY := Lib.hid (fun w => words_o a1 w (by omega))
  have KZ := Lib.hid (fun w => words_o (a0 ++ (⟨#[13]⟩ : ByteArray) ++ a1) w (by omega))
  rw [hcat, words_blank _ _ (by decide)] at KZ
  have HW := Lib.hid (fun u (h : u ∈ wordsB a0.data.toList) => wordB_one h)
  obtain ⟨xs, hxs⟩ : ∃ xs, wordsB a0.data.toList = xs := ⟨_, rfl⟩
  obtain ⟨ys, hys⟩ : ∃ ys, wordsB a1.data.toList = ys := ⟨_, rfl⟩
  rw [hxs] at KX KZ HW hx0
  rw [hys] at KY KZ hx1
  rw [List.length_append] at KZ
  obtain ⟨n, hn⟩ : ∃ n, xs.length = n := ⟨_, rfl⟩
  obtain ⟨m, hm⟩ : ∃ m, ys.length = m := ⟨_, rfl⟩
  rw [hn] at KX KZ hx0
  rw [hm] at KY KZ hx1
  have HN := Lib.hid hn
  have HM := Lib.hid hm
  clear hxs hys hcat hsz hn hm h1 h2
  go_enter Tryd.func5, Tryd.ntmps5
  go_wp2_with fail
  refine KA.out.mono ?_
  rintro e w1 ⟨rfl, hb1⟩
  have S1 := Lib.hid ((St.begin W).stay hb1)
  go_wp2_with fail
  refine (KX.out _).mono ?_
  rintro e w2 ⟨B2, c2, rfl, k2⟩
  have S2 := Lib.hid (S1.out.join k2)
  go_wp2_with fail
  refine (KY.out _).mono ?_
  rintro e w3 ⟨B3, c3, rfl, k3⟩
  have S3 := Lib.hid (S2.out.join k3)
  go_wp2_with fail
  refine (KZ.out _).mono ?_
  rintro e w4 ⟨B4, c4, rfl, k4⟩
  have S4 := Lib.hid (S3.out.join k4)
  clear k2 k3 k4
  go_wp2_with fail
  go_loopw [8] (fun x8 wr => ∃ i : Nat, i ≤ n ∧ x8 = .int .i64 (i : Int) ∧ St W None wr [LisR 9 1 (.slice B2 n c2) n (stVs xs), LisR 9 1 (.slice B3 m c3) m (stVs ys), LisR 9 1 (.slice B4 (n + m) c4) (n + m) (stVs (xs ++ ys))]) (fun x8 _ => n - (intOf x8).toNat)
  case atStart => exact ⟨0, Nat.zero_le _, rfl, S4.out⟩
  case round =>
  obtain ⟨i, hi, rfl, hst⟩ := hrel
  by_cases hlt : i < n
  · have z1 : decide ((i : Int) < (n : Int)) = true := decide_eq_true (by omega)
    obtain ⟨u, hu⟩ : ∃ u, xs[i]? = some u := ⟨xs[i]'(by have := HN.out; omega), List.getElem?_eq_getElem _⟩
    have hl0 := lst_len a0
    obtain ⟨h3, h4, h5⟩ := HW.out u (List.mem_of_getElem? hu)
    obtain ⟨g, o, rfl, hg, q1⟩ := (hst.rdc 0 rfl).1.strs i u hu
    match u, h3 with
    | b0 :: t0, _ =>
    have KU1 := Lib.hid (fun w => words_o ⟨(b0 :: t0).toArray⟩ w (by show (b0 :: t0).length ≤ _; omega))
    rw [show (⟨(b0 :: t0).toArray⟩ : ByteArray).data.toList = b0 :: t0 from rfl, h4] at KU1
    have KU2 := Lib.hid KU1.out
    have y1 : ((b0 :: t0) != (b0 :: t0)) = false := by simp
    have HS := Lib.hid hst
    clear hst hu h4
    go_wp2_with fail
    --GEN
    refine wp_region_held_drew (S := (fun V => V.cell? ⟨g, o + i, none⟩ = some (.string ⟨(b0 :: t0).toArray⟩))) (by kernel_rfl) ?_ (fun hHeld => ?_)
    · (try dsimp only); go_keep
    refine wpAnyH_take (i := 0) (oi := { dst := some 34, op := Op.move (Operand.tmp 5), type := 32, pos := "outright.go:21", after := #[], guard := none }) (v := ?_) rfl (by kernel_rfl) (by kernel_rfl) (by kernel_rfl) (fun _ _ _ h => h) (Or.inl ⟨by rfl, ?_⟩) hHeld ?_
    rotate_left
    · intro wz hSw; (try dsimp only at hSw); go_simp; try (with_reducible rfl)
    try simp only [Act.put, List.setIfInBounds_toArray, List.set_cons_zero, List.set_cons_succ]
    refine wpAnyH_take (i := 1) (oi := { dst := some 35, op := Op.move (Operand.tmp 8), type := 3, pos := "outright.go:21", after := #[], guard := none }) (v := ?_) rfl (by kernel_rfl) (by kernel_rfl) (by kernel_rfl) (fun _ _ _ h => h) (Or.inl ⟨by rfl, ?_⟩) hHeld ?_
    rotate_left
    · intro wz hSw; (try dsimp only at hSw); go_simp; try (with_reducible rfl)
    try simp only [Act.put, List.setIfInBounds_toArray, List.set_cons_zero, List.set_cons_succ]
    refine wpAnyH_take (i := 2) (oi := { dst := some 36, op := Op.indexAddr 32 (Operand.tmp 34) (Operand.tmp 35), type := 0, pos := "outright.go:21", after := #[{ on := 0, ground := Ground.data }, { on := 1, ground := Ground.data }], guard := none }) (v := ?_) rfl (by kernel_rfl) (by kernel_rfl) (by kernel_rfl) (fun _ _ _ h => h) (Or.inl ⟨by rfl, ?_⟩) hHeld ?_
    rotate_left
    · intro wz hSw; (try dsimp only at hSw); go_simp; try (with_reducible rfl)
    try simp only [Act.put, List.setIfInBounds_toArray, List.set_cons_zero, List.set_cons_succ]
    refine wpAnyH_take (i := 3) (oi := { dst := some 37, op := Op.load 9 (Operand.tmp 36), type := 9, pos := "outright.go:21", after := #[{ on := 2, ground := Ground.data }], guard := none }) (v := ?_) rfl (by kernel_rfl) (by kernel_rfl) (by kernel_rfl) (fun _ _ _ h => h) (Or.inl ⟨by rfl, ?_⟩) hHeld ?_
    rotate_left
    · intro wz hSw; (try dsimp only at hSw); go_simp; try (with_reducible rfl)
    try simp only [Act.put, List.setIfInBounds_toArray, List.set_cons_zero, List.set_cons_succ]
    refine wpAnyH_take (i := 4) (oi := { dst := some 38, op := Op.binOp BinOp.eql 9 (Operand.tmp 37) (Operand.const (Value.string { data := #[] })) 9, type := 4, pos := "outright.go:21", after := #[{ on := 3, ground := Ground.data }], guard := none }) (v := ?_) rfl (by kernel_rfl) (by kernel_rfl) (by kernel_rfl) (fun _ _ _ h => h) (Or.inl ⟨by rfl, ?_⟩) hHeld ?_
    rotate_left
    · intro wz hSw; (try dsimp only at hSw); go_simp; try (with_reducible rfl)
    try simp only [Act.put, List.setIfInBounds_toArray, List.set_cons_zero, List.set_cons_succ]
    refine wpAnyH_take (i := 5) (oi := { dst := some 39, op := Op.move (Operand.tmp 38), type := 4, pos := "outright.go:21", after := #[{ on := 4, ground := Ground.data }], guard := none }) (v := ?_) rfl (by kernel_rfl) (by kernel_rfl) (by kernel_rfl) (fun _ _ _ h => h) (Or.inl ⟨by rfl, ?_⟩) hHeld ?_
    rotate_left
    · intro wz hSw; (try dsimp only at hSw); go_simp; try (with_reducible rfl)
    try simp only [Act.put, List.setIfInBounds_toArray, List.set_cons_zero, List.set_cons_succ]
    refine wpAnyH_take (i := 6) (oi := { dst := some 40, op := Op.move (Operand.tmp 5), type := 32, pos := "outright.go:21", after := #[{ on := 5, ground := Ground.guard }], guard := some (5, false) }) (v := ?_) rfl (by kernel_rfl) (by kernel_rfl) (by kernel_rfl) (fun _ _ _ h => h) (Or.inl ⟨by rfl, ?_⟩) hHeld ?_
    rotate_left
    · intro wz hSw; (try dsimp only at hSw); go_simp; try (with_reducible rfl)
    try simp only [Act.put, List.setIfInBounds_toArray, List.set_cons_zero, List.set_cons_succ]
    refine wpAnyH_take (i := 7) (oi := { dst := some 41, op := Op.move (Operand.tmp 8), type := 3, pos := "outright.go:21", after := #[{ on := 5, ground := Ground.guard }], guard := some (5, false) }) (v := ?_) rfl (by kernel_rfl) (by kernel_rfl) (by kernel_rfl) (fun _ _ _ h => h) (Or.inl ⟨by rfl, ?_⟩) hHeld ?_
    rotate_left
    · intro wz hSw; (try dsimp only at hSw); go_simp; try (with_reducible rfl)
    try simp only [Act.put, List.setIfInBounds_toArray, List.set_cons_zero, List.set_cons_succ]
    refine wpAnyH_take (i := 8) (oi := { dst := some 42, op := Op.indexAddr 32 (Operand.tmp 40) (Operand.tmp 41), type := 0, pos := "outright.go:21", after := #[{ on := 6, ground := Ground.data }, { on := 7, ground := Ground.data }, { on := 5, ground := Ground.guard }], guard := some (5, false) }) (v := ?_) rfl (by kernel_rfl) (by kernel_rfl) (by kernel_rfl) (fun _ _ _ h => h) (Or.inl ⟨by rfl, ?_⟩) hHeld ?_
    rotate_left
    · intro wz hSw; (try dsimp only at hSw); go_simp; try (with_reducible rfl)
    try simp only [Act.put, List.setIfInBounds_toArray, List.set_cons_zero, List.set_cons_succ]
    refine wpAnyH_take (i := 9) (oi := { dst := some 43, op := Op.load 9 (Operand.tmp 42), type := 9, pos := "outright.go:21", after := #[{ on := 8, ground := Ground.data }, { on := 5, ground := Ground.guard }], guard := some (5, false) }) (v := ?_) rfl (by kernel_rfl) (by kernel_rfl) (by kernel_rfl) (fun _ _ _ h => h) (Or.inl ⟨by rfl, ?_⟩) hHeld ?_
    rotate_left
    · intro wz hSw; (try dsimp only at hSw); go_simp; try (with_reducible rfl)
    try simp only [Act.put, List.setIfInBounds_toArray, List.set_cons_zero, List.set_cons_succ]
    refine wpAnyH_ready (rs := [10]) (by kernel_rfl) (by simp) ?_
    refine AllReadyH.cons (o := { dst := some 44, op := Op.call { callee := Callee.value (Operand.func 16), args := #[Operand.tmp 43], argTypes := #[9] }, type := 32, pos := "outright.go:21", after := #[{ on := 9, ground := Ground.data }, { on := 5, ground := Ground.chain }, { on := 5, ground := Ground.guard }], guard := some (5, false) }) rfl (fun K hK => ?_) AllReadyH.nil
    go_simp
    refine (KU1.out _).mono ?_
    rintro e w5 ⟨B5, c5, rfl, k5⟩
    have s5 := (HS.out.drew).stay k5.below
    have q2 := (k5.below.cell (p := ⟨g, o + i, none⟩) (show g < _ from hg)).trans q1
    have S5 := Lib.hid s5
    have K5 := Lib.hid (Nat.lt_of_lt_of_le (show g < wr.drew.heap.size from hg) k5.size)
    clear k5 s5
    go_wp2_with fail
    refine hK.out _ _ ?_ (fun hHeld => ?_)
    · exact q2
    clear hK K
    try simp only [Act.put, List.setIfInBounds_toArray, List.set_cons_zero, List.set_cons_succ]
    refine wpAnyH_take (i := 11) (oi := { dst := some 45, op := Op.call { callee := Callee.builtin Builtin.len, args := #[Operand.tmp 44], argTypes := #[32] }, type := 3, pos := "outright.go:21", after := #[{ on := 10, ground := Ground.data }, { on := 5, ground := Ground.guard }], guard := some (5, false) }) (v := ?_) rfl (by kernel_rfl) (by kernel_rfl) (by kernel_rfl) (fun _ _ _ h => h) (Or.inl ⟨by rfl, ?_⟩) hHeld ?_
    rotate_left
    · intro wz hSw; (try dsimp only at hSw); go_simp; try (with_reducible rfl)
    try simp only [Act.put, List.setIfInBounds_toArray, List.set_cons_zero, List.set_cons_succ]
    refine wpAnyH_take (i := 12) (oi := { dst := some 46, op := Op.binOp BinOp.neq 3 (Operand.tmp 45) (Operand.const (Value.int IntKind.i64 1)) 3, type := 4, pos := "outright.go:21", after := #[{ on := 11, ground := Ground.data }, { on := 5, ground := Ground.guard }], guard := some (5, false) }) (v := ?_) rfl (by kernel_rfl) (by kernel_rfl) (by kernel_rfl) (fun _ _ _ h => h) (Or.inl ⟨by rfl, ?_⟩) hHeld ?_
    rotate_left
    · intro wz hSw; (try dsimp only at hSw); go_simp; try (with_reducible rfl)
    try simp only [Act.put, List.setIfInBounds_toArray, List.set_cons_zero, List.set_cons_succ]
    refine wpAnyH_take (i := 13) (oi := { dst := some 47, op := Op.pick (Operand.tmp 39) (Operand.const (Value.bool true)) (Operand.tmp 46), type := 4, pos := "outright.go:21", after := #[{ on := 5, ground := Ground.data }, { on := 12, ground := Ground.data }], guard := none }) (v := ?_) rfl (by kernel_rfl) (by kernel_rfl) (by kernel_rfl) (fun _ _ _ h => h) (Or.inl ⟨by rfl, ?_⟩) hHeld ?_
    rotate_left
    · intro wz hSw; (try dsimp only at hSw); go_simp; try (with_reducible rfl)
    try simp only [Act.put, List.setIfInBounds_toArray, List.set_cons_zero, List.set_cons_succ]
    refine wpAnyH_take (i := 14) (oi := { dst := some 48, op := Op.move (Operand.tmp 47), type := 4, pos := "outright.go:21", after := #[{ on := 13, ground := Ground.data }, { on := 10, ground := Ground.chain }], guard := none }) (v := ?_) rfl (by kernel_rfl) (by kernel_rfl) (by kernel_rfl) (fun _ _ _ h => h) (Or.inl ⟨by rfl, ?_⟩) hHeld ?_
    rotate_left
    · intro wz hSw; (try dsimp only at hSw); go_simp; try (with_reducible rfl)
    try simp only [Act.put, List.setIfInBounds_toArray, List.set_cons_zero, List.set_cons_succ]
    refine wpAnyH_take (i := 15) (oi := { dst := some 49, op := Op.move (Operand.tmp 5), type := 32, pos := "outright.go:21", after := #[{ on := 14, ground := Ground.guard }], guard := some (14, false) }) (v := ?_) rfl (by kernel_rfl) (by kernel_rfl) (by kernel_rfl) (fun _ _ _ h => h) (Or.inl ⟨by rfl, ?_⟩) hHeld ?_
    rotate_left
    · intro wz hSw; (try dsimp only at hSw); go_simp; try (with_reducible rfl)
    try simp only [Act.put, List.setIfInBounds_toArray, List.set_cons_zero, List.set_cons_succ]
    refine wpAnyH_take (i := 16) (oi := { dst := some 50, op := Op.move (Operand.tmp 8), type := 3, pos := "outright.go:21", after := #[{ on := 14, ground := Ground.guard }], guard := some (14, false) }) (v := ?_) rfl (by kernel_rfl) (by kernel_rfl) (by kernel_rfl) (fun _ _ _ h => h) (Or.inl ⟨by rfl, ?_⟩) hHeld ?_
    rotate_left
    · intro wz hSw; (try dsimp only at hSw); go_simp; try (with_reducible rfl)
    try simp only [Act.put, List.setIfInBounds_toArray, List.set_cons_zero, List.set_cons_succ]
    refine wpAnyH_take (i := 17) (oi := { dst := some 51, op := Op.indexAddr 32 (Operand.tmp 49) (Operand.tmp 50), type := 0, pos := "outright.go:21", after := #[{ on := 15, ground := Ground.data }, { on := 16, ground := Ground.data }, { on := 14, ground := Ground.guard }], guard := some (14, false) }) (v := ?_) rfl (by kernel_rfl) (by kernel_rfl) (by kernel_rfl) (fun _ _ _ h => h) (Or.inl ⟨by rfl, ?_⟩) hHeld ?_
    rotate_left
    · intro wz hSw; (try dsimp only at hSw); go_simp; try (with_reducible rfl)
    try simp only [Act.put, List.setIfInBounds_toArray, List.set_cons_zero, List.set_cons_succ]
    refine wpAnyH_take (i := 18) (oi := { dst := some 52, op := Op.load 9 (Operand.tmp 51), type := 9, pos := "outright.go:21", after := #[{ on := 17, ground := Ground.data }, { on := 14, ground := Ground.guard }], guard := some (14, false) }) (v := ?_) rfl (by kernel_rfl) (by kernel_rfl) (by kernel_rfl) (fun _ _ _ h => h) (Or.inl ⟨by rfl, ?_⟩) hHeld ?_
    rotate_left
    · intro wz hSw; (try dsimp only at hSw); go_simp; try (with_reducible rfl)
    try simp only [Act.put, List.setIfInBounds_toArray, List.set_cons_zero, List.set_cons_succ]
    refine wpAnyH_take (i := 22) (oi := { dst := some 56, op := Op.move (Operand.tmp 5), type := 32, pos := "outright.go:21", after := #[{ on := 14, ground := Ground.guard }], guard := some (14, false) }) (v := ?_) rfl (by kernel_rfl) (by kernel_rfl) (by kernel_rfl) (fun _ _ _ h => h) (Or.inl ⟨by rfl, ?_⟩) hHeld ?_
    rotate_left
    · intro wz hSw; (try dsimp only at hSw); go_simp; try (with_reducible rfl)
    try simp only [Act.put, List.setIfInBounds_toArray, List.set_cons_zero, List.set_cons_succ]
    refine wpAnyH_take (i := 23) (oi := { dst := some 57, op := Op.move (Operand.tmp 8), type := 3, pos := "outright.go:21", after := #[{ on := 14, ground := Ground.guard }], guard := some (14, false) }) (v := ?_) rfl (by kernel_rfl) (by kernel_rfl) (by kernel_rfl) (fun _ _ _ h => h) (Or.inl ⟨by rfl, ?_⟩) hHeld ?_
    rotate_left
    · intro wz hSw; (try dsimp only at hSw); go_simp; try (with_reducible rfl)
    try simp only [Act.put, List.setIfInBounds_toArray, List.set_cons_zero, List.set_cons_succ]
    refine wpAnyH_take (i := 24) (oi := { dst := some 58, op := Op.indexAddr 32 (Operand.tmp 56) (Operand.tmp 57), type := 0, pos := "outright.go:21", after := #[{ on := 22, ground := Ground.data }, { on := 23, ground := Ground.data }, { on := 14, ground := Ground.guard }], guard := some (14, false) }) (v := ?_) rfl (by kernel_rfl) (by kernel_rfl) (by kernel_rfl) (fun _ _ _ h => h) (Or.inl ⟨by rfl, ?_⟩) hHeld ?_
    rotate_left
    · intro wz hSw; (try dsimp only at hSw); go_simp; try (with_reducible rfl)
    try simp only [Act.put, List.setIfInBounds_toArray, List.set_cons_zero, List.set_cons_succ]
    refine wpAnyH_take (i := 25) (oi := { dst := some 59, op := Op.load 9 (Operand.tmp 58), type := 9, pos := "outright.go:21", after := #[{ on := 24, ground := Ground.data }, { on := 14, ground := Ground.guard }], guard := some (14, false) }) (v := ?_) rfl (by kernel_rfl) (by kernel_rfl) (by kernel_rfl) (fun _ _ _ h => h) (Or.inl ⟨by rfl, ?_⟩) hHeld ?_
    rotate_left
    · intro wz hSw; (try dsimp only at hSw); go_simp; try (with_reducible rfl)
    try simp only [Act.put, List.setIfInBounds_toArray, List.set_cons_zero, List.set_cons_succ]
    refine wpAnyH_ready (rs := [19]) (by kernel_rfl) (by simp) ?_
    refine AllReadyH.cons (o := { dst := some 53, op := Op.call { callee := Callee.value (Operand.func 16), args := #[Operand.tmp 52], argTypes := #[9] }, type := 32, pos := "outright.go:21", after := #[{ on := 18, ground := Ground.data }, { on := 14, ground := Ground.chain }, { on := 14, ground := Ground.guard }], guard := some (14, false) }) rfl (fun K hK => ?_) AllReadyH.nil
    go_simp
    refine (KU2.out _).mono ?_
    rintro e w6 ⟨B6, c6, rfl, k6⟩
    have s6 := S5.out.stay k6.below
    obtain ⟨g6, o6, rfl, hg6, q4⟩ := (k6.rdc 0 rfl).1 0 _ rfl
    rw [Nat.add_zero] at q4
    unfold stV at q4
    have q3 := (k6.below.cell (p := ⟨g, o + i, none⟩) K5.out).trans q2
    have S6 := Lib.hid s6
    clear k6 s6
    go_wp2_with fail
    refine hK.out _ _ ?_ (fun hHeld => ?_)
    · exact q3
    clear hK K
    try simp only [Act.put, List.setIfInBounds_toArray, List.set_cons_zero, List.set_cons_succ]
    refine wpAnyH_less (S2 := (fun V => V.cell? ⟨g, o + i, none⟩ = some (.string ⟨(b0 :: t0).toArray⟩) ∧ V.cell? ⟨g6, o6, none⟩ = some (.string ⟨(b0 :: t0).toArray⟩))) (fun w h => h.1) ?_
    replace hHeld := And.intro q3 q4
    refine wpAnyH_take (i := 20) (oi := { dst := some 54, op := Op.indexAddr 32 (Operand.tmp 53) (Operand.const (Value.int IntKind.i64 0)), type := 0, pos := "outright.go:21", after := #[{ on := 19, ground := Ground.data }, { on := 14, ground := Ground.guard }], guard := some (14, false) }) (v := ?_) rfl (by kernel_rfl) (by kernel_rfl) (by kernel_rfl) (fun _ _ _ h => h) (Or.inl ⟨by rfl, ?_⟩) hHeld ?_
    rotate_left
    · intro wz hSw; (try dsimp only at hSw); go_simp; try (with_reducible rfl)
    try simp only [Act.put, List.setIfInBounds_toArray, List.set_cons_zero, List.set_cons_succ]
    refine wpAnyH_take (i := 21) (oi := { dst := some 55, op := Op.load 9 (Operand.tmp 54), type := 9, pos := "outright.go:21", after := #[{ on := 20, ground := Ground.data }, { on := 14, ground := Ground.guard }], guard := some (14, false) }) (v := ?_) rfl (by kernel_rfl) (by kernel_rfl) (by kernel_rfl) (fun _ _ _ h => h) (Or.inl ⟨by rfl, ?_⟩) hHeld ?_
    rotate_left
    · intro wz hSw; (try dsimp only at hSw); go_simp; try (with_reducible rfl)
    try simp only [Act.put, List.setIfInBounds_toArray, List.set_cons_zero, List.set_cons_succ]
    refine wpAnyH_take (i := 26) (oi := { dst := some 60, op := Op.binOp BinOp.neq 9 (Operand.tmp 55) (Operand.tmp 59) 9, type := 4, pos := "outright.go:21", after := #[{ on := 21, ground := Ground.data }, { on := 25, ground := Ground.data }, { on := 14, ground := Ground.guard }], guard := some (14, false) }) (v := ?_) rfl (by kernel_rfl) (by kernel_rfl) (by kernel_rfl) (fun _ _ _ h => h) (Or.inl ⟨by rfl, ?_⟩) hHeld ?_
    rotate_left
    · intro wz hSw; (try dsimp only at hSw); go_simp; try (with_reducible rfl)
    try simp only [Act.put, List.setIfInBounds_toArray, List.set_cons_zero, List.set_cons_succ]
    refine wpAnyH_take (i := 27) (oi := { dst := some 61, op := Op.pick (Operand.tmp 48) (Operand.const (Value.bool true)) (Operand.tmp 60), type := 4, pos := "outright.go:21", after := #[{ on := 14, ground := Ground.data }, { on := 26, ground := Ground.data }], guard := none }) (v := ?_) rfl (by kernel_rfl) (by kernel_rfl) (by kernel_rfl) (fun _ _ _ h => h) (Or.inl ⟨by rfl, ?_⟩) hHeld ?_
    rotate_left
    · intro wz hSw; (try dsimp only at hSw); go_simp; try (with_reducible rfl)
    try simp only [Act.put, List.setIfInBounds_toArray, List.set_cons_zero, List.set_cons_succ]
    refine wpAnyH_done (by kernel_rfl) ?_ _
    --NEG
    all_goals
      go_wp2_with fail
      go_roundw
      case rel => exact ⟨i + 1, by omega, by go_num, by first | exact S6.out | exact S6.out.drew⟩
      case measure => simp [intOf]; omega
  obtain rfl : i = n := by omega
  have z1 : decide ((i : Int) < (i : Int)) = false := decide_eq_false (by omega)
  have s5 := hst.lis_new 9 1 0 #[] rfl (by unfold maxLen; omega)
  have HL5 := Lib.hid (s5.lis 3 rfl)
  have RX := Lib.hid (s5.lis 0 rfl).reads
  have S5 := Lib.hid s5
  clear s5 hst
  go_wp2_with (first
    | (at_builtin; refine wpList_lis rfl (.tmp 63) (.tmp 64) 32 rfl 9 iS (.string ⟨#[]⟩) 1 16 Tryd.underlying32 hiS hzS hsS hbS rfl (by decide) _ _ _ rfl HL5.out B2 i c2 (stVs xs) rfl RX.out (stVs_one xs) (by unfold maxLen; omega) (by omega) ?_; intro B6 c6 w6 hl6 hg6 hat6; simp only [Nat.zero_add] at hl6 hat6; have s6 := S5.out.lis_put 3 rfl hl6 hg6 hat6; have HL6 := Lib.hid (s6.lis 3 rfl); have RY := Lib.hid (s6.lis 1 rfl).reads; have S6 := Lib.hid s6; clear hl6 hg6 hat6 s6 HL5)
    | (at_builtin; refine wpList_lis rfl (.tmp 65) (.tmp 66) 32 rfl 9 iS (.string ⟨#[]⟩) 1 16 Tryd.underlying32 hiS hzS hsS hbS rfl (by decide) _ _ _ rfl HL6.out B3 m c3 (stVs ys) rfl RY.out (stVs_one ys) (by unfold maxLen; omega) (by omega) ?_; intro B7 c7 w7 hl7 hg7 hat7; have s7 := S6.out.lis_put 3 rfl hl7 hg7 hat7; have S7 := Lib.hid s7; clear hl7 hg7 hat7 s7)
    | fail)
  have e7 : ([] ++ stVs xs) ++ stVs ys = stVs (xs ++ ys) := by rw [List.nil_append, stVs_app]
  have s7 := S7.out
  have r4 := (s7.rdc 2 rfl).1.strs
  have r7 := (s7.rdc 3 rfl).1
  rw [e7] at r7
  have KT := Lib.hid (texts_o B4 B7 (i + m) (i + m) c4 c7 (xs ++ ys) (xs ++ ys) w7 (by rw [List.length_append, HN.out, HM.out]) (by rw [List.length_append, HN.out, HM.out]) (by omega) (by omega) r4 r7.strs)
  rw [decide_eq_true (show xs ++ ys = xs ++ ys from rfl)] at KT
  clear r4 r7 e7 s7
  refine KT.out.mono ?_
  rintro e w8 ⟨rfl, hb8⟩
  go_wp2_with fail
  go_ret
  exact ⟨rfl, (S7.out.stay hb8).below⟩

theorem door_met (os : Os) (args : Array Value) : laidMetH Tryd.prog Rows.callWordsRow.laid ((World.doorLaid Tryd.prog 24 os).forCall (fun _ _ => 0) ⟨#[], args, []⟩).memory :=
  laidMetH_of_parts3 (fuel := 8) (laidMet_of_run' 8 (by kernel_rfl) (by kernel_rfl)) (by kernel_rfl) (by kernel_rfl)
set_option maxRecDepth 100000 in
theorem lifted (os : Os) (started : os.Started) (H : Type) (enc : TypeId × Value → H) :
    ReturnsInHanded {} Tryd.checked os 5 .any (fun w args => (Rows.callWordsSpec.pre enc Tryd.prog Tryd.f5 [] false w args ∧ laidMetH Tryd.prog Rows.callWordsRow.laid w) ∧ sizedMet enc Tryd.prog Tryd.f5 (OpenSpec.ofChange Rows.callWordsSpec) false w args) (Rows.callWordsSpec.post enc Tryd.prog Tryd.f5 false true false false) := by
  refine law_lifted_laid (C := Tryd.checked) (tb := 4) own started (by kernel_rfl) Tryd.func5
    (ChangeSpec.witness_shaped (enc := enc) (C := Tryd.checked) (os := os) (X := fun w _ => laidMetH Tryd.prog Rows.callWordsRow.laid w) false (World.doorLaid Tryd.prog 24 os) #[.string ByteArray.empty, .string ByteArray.empty] 8 rfl (World.shaped_of_RefB (by kernel_rfl) (by kernel_rfl)) (by kernel_rfl) (by kernel_rfl) (by kernel_rfl) (door_met os _)) laid (by kernel_rfl) (by kernel_rfl) Tryd.underlying4 rfl ?_
  intro W base args ds ps hval0 hA0 hlt hL
  have hval : ∀ (j : Nat) t v, Tryd.f5.params[j]? = some t → args[j]? = some v → Value.okWide Tryd.prog W .any base t v := hval0
  have hA : DataW.TrodAll enc Tryd.prog W 0 (fun _ => true) true Tryd.f5.params.toList args.toList ds ps := hA0
  clear hA0 hval0
  rw [Tryd.params5] at hA hval
  obtain ⟨v0, vs0, d0, ds0, p0, q0, hargs, rfl, rfl, h0, r0⟩ := trodAll_cons hA
  obtain ⟨v1, vs1, d1, ds1, p1, q1, rfl, rfl, rfl, h1, r1⟩ := trodAll_cons r0
  obtain ⟨rfl, rfl, rfl⟩ := trodAll_nil r1
  obtain rfl : args = #[v0, v1] := by cases args; simp_all
  obtain ⟨a0, rfl, rfl, rfl, w0⟩ := Go.ChangeMaps.open_string Tryd.underlying9 (hval 0 9 v0 rfl rfl) h0
  obtain ⟨a1, rfl, rfl, rfl, w1⟩ := Go.ChangeMaps.open_string Tryd.underlying9 (hval 1 9 v1 rfl rfl) h1
  refine ⟨⟨rfl, rfl, rfl⟩, ?_⟩
  exact walk a0 a1 W (tab_of hL)

theorem over : Rows.callWordsRow.holds Tryd.pinned (OpenSpec.ofChange Rows.callWordsSpec) :=
  OpenClaim.holds_of_wide 5 Tryd.f5 rfl rfl rfl rfl rfl rfl rfl ⟨rfl, rfl, rfl, rfl, rfl⟩ rfl rfl rfl rfl rfl (by kernel_rfl) Tryd.func5 (by kernel_rfl)
    (of_decide_eq_true (by kernel_rfl)) (by unfold Func.isWrapper; first | (rw [if_pos (by decide +kernel)]; kernel_rfl) | (rw [if_neg (by decide +kernel)]; exact ⟨rfl, rfl⟩))
    (fun os started H enc _ => lifted os started H enc)
theorem proved : Rows.CallWordsCardSaid :=
  Claim7.holds_tied_plain_at .later [] Rows.callWordsCard.laidKinds true Rows.callWordsCard.stood.harness Rows.callWordsCard.stood.looks
    over (fun _ h => by cases h) (by kernel_rfl) (fun _ h => by cases h) callWords_row_tie rfl ⟨rfl, rfl⟩ (by kernel_rfl) rfl
    (fun f fn hf hfn => by
      obtain rfl : f = 5 := Option.some.inj ((show Tryd.prog.funcNamed Rows.callWordsRow.func = some 5 by kernel_rfl).symm.trans hf) |>.symm
      obtain rfl : fn = Tryd.f5 := (Option.some.inj (Tryd.func5.symm.trans hfn)).symm
      exact ⟨by kernel_rfl, fun j t ht => by
        rw [Tryd.params5] at ht
        have hm : t ∈ [9, 9] := by simpa using Array.mem_of_getElem? ht
        have hall : ([9, 9].all fun u => !Tryd.prog.wantsStandIn u) = true := by kernel_rfl
        exact (show Tryd.prog.wantsStandIn t = false by simpa using List.all_eq_true.1 hall t hm)⟩)
    (by kernel_rfl)
#print axioms proved
end Go.Proofs.YtgajcjacnnpfcaaDoor.callWords
