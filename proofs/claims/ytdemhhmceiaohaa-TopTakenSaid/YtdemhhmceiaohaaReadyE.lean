/- Layer 15: slices.Index, slices.Delete. -/
import Derived.Test.YtdemhhmceiaohaaReadyD
import Derived.Lib.SliceRun
namespace Go.Proofs.Ytdemhhmceiaohaa
open Go.RowKit
set_option linter.unusedVariables false
set_option maxRecDepth 100000
set_option maxHeartbeats 1000000
/-- Cells laid anew within a list. -/
theorem lis_within {w : World} {e : TypeId} {g off n cap : Nat} {xs : List Value} (h : Lis w e 1 (.slice (some ⟨g, off, none⟩) n cap) n xs) (a : Nat) (news : List Value) (ha : a + news.length ≤ n) :
    Lis (w.setCells g (off + a) news) e 1 (.slice (some ⟨g, off, none⟩) n cap) n (xs.take a ++ news ++ xs.drop (a + news.length)) ∧ Only g w (w.setCells g (off + a) news) := by
  have hxl : xs.length = n := by simpa using h.1
  rcases h.2 with ⟨hv, _⟩ | ⟨g', off', cp, arr, hv, hh, hn, hm, hs, hx⟩
  · cases hv
  injection hv with hA _ hc
  injection hA with hA
  injection hA with hA ho
  subst hA ho hc
  obtain ⟨arr', h2, h3⟩ := heap_setCells g e news (off + a) w arr hh
  have hin : ∀ j, j < news.length → (w.cell? ⟨g, off + a + j, none⟩).isSome = true := fun j hj => by
    have hsz := hs (by omega)
    simp [World.cell?, hh]; omega
  refine ⟨⟨by simp; omega, Or.inr ⟨g, off, cap, arr', rfl, h2, hn, hm, fun h0 => by rw [h3]; exact hs h0, fun j u hu => ?_⟩⟩,
    ⟨World.os_setCells _ _ _ _, tape_setCells g news (off + a) w, World.output_setCells _ _ _ _, Nat.le_of_eq (size_setCells_ g news (off + a) w).symm, fun k hk hne => World.heap_setCells_other w g _ news hk hne⟩⟩
  have key : (w.setCells g (off + a) news).cell? ⟨g, off + j, none⟩ = some u := by
    by_cases h1 : j < a
    · rw [World.cell?_setCells_out g news (off + a) w ⟨g, off + j, none⟩ (fun _ _ => Or.inl (by show off + j < _; omega))]
      rw [List.append_assoc, List.getElem?_append_left (by simp; omega), List.getElem?_take, if_pos h1] at hu
      simpa [World.cell?, hh] using hx j u hu
    · by_cases h4 : j < a + news.length
      · rw [List.getElem?_append_left (by simp; omega), List.getElem?_append_right (by simp; omega)] at hu
        have e1 : (xs.take a).length = a := by simp; omega
        rw [e1] at hu
        have := World.cell?_setCells_in g news (off + a) w hin (j - a) (by omega)
        rw [show off + j = off + a + (j - a) by omega, this]
        rw [List.getElem?_eq_getElem (by omega)] at hu
        exact hu
      · rw [World.cell?_setCells_out g news (off + a) w ⟨g, off + j, none⟩ (fun _ _ => Or.inr (by show _ ≤ off + j; omega))]
        rw [List.getElem?_append_right (by simp; omega), List.getElem?_drop] at hu
        have e1 : (xs.take a ++ news).length = a + news.length := by simp; omega
        rw [e1, show a + news.length + (j - (a + news.length)) = j by omega] at hu
        simpa [World.cell?, hh] using hx j u hu
  simpa [World.cell?, h2] using key
/-- One cell is cleared. -/
theorem wpList_clear1 {w : World} {P : Program} {ops : Array Oper} {rest : List Oper} {o : Oper} {a : Act} {Q : Exit → Act → World → Prop} (hgd : o.guard = none) (s : Operand) (t : TypeId)
    (ho : o.op = .call { callee := .builtin .clear, args := #[s], argTypes := #[t] }) (e : TypeId) (z : Value) (ht : P.underlying t = some (.slice e)) (hv : ∀ w, (zeroValue e).run P w = .ok z w) (hz : z.cells = #[z]) (h1 : z.oneCell' = true) {g of cap : Nat} (hs : a.eval s = .slice (some ⟨g, of, none⟩) 1 cap)
    (hc : (w.cell? ⟨g, of, none⟩).isSome = true) (hf : w.frozen? ⟨g, of, none⟩ = false) (hK : wpList P ops Q rest (a.put o.dst (.tuple #[])) (w.setCell ⟨g, of, none⟩ z)) : wpList P ops Q (o :: rest) a w :=
  wpList_plain hgd fun K hK2 => by
    have hrun := Lib.run_clear_slice (P := P) w t e o.type z ht hv hz h1 g of 1 cap (by omega) (fun j hj => by obtain rfl : j = 0 := by omega
                                                                                                               simpa using hc) (fun j hj => by obtain rfl : j = 0 := by omega
                                                                                                                                               simpa using hf)
    unfold Oper.wp execOp
    simp only [ho, resolve, invoke, builtin, Sem.run_bind, Sem.run_pure, Result.andThen_ok, List.map_toArray, List.map_cons, List.map_nil, hs, hrun]
    exact hK2 _ _ hK
theorem set_at {L : List Res} {i : Nat} {R X : Res} (hi : L[i]? = some R) : (L.set i X)[i]? = some X := List.getElem?_set_self (List.getElem?_eq_some_iff.1 hi).1
theorem zero_int (w : World) : (zeroValue 3).run Try.prog w = .ok (.int .i64 0) w := by kernel_rfl
section
variable {w0 w w' : World} {S0 S : Nat → Prop} {L : List Res} {q : Nat} {v : Nat → Value} {s s' : QS}
theorem Index_c {A : Option Addr} {n c : Nat} {l : List Nat} (h : Lis w 3 1 (.slice A n c) n (ivs l)) (hn1 : n ≤ 1000) (x a : Nat) (ha : l[a]? = some x) (hb : ∀ b, b < a → l[b]? ≠ some x) :
    Calls Try.prog 85 #[.slice A n c, .int .i64 (x : Int)] w fun e w' => e = .returned (.int .i64 (a : Int)) ∧ w' = w := by
  have hl : l.length = n := by have := h.1; rw [ivs_len] at this; omega
  have han : a < n := by
    rcases Nat.lt_or_ge a l.length with h | h
    · omega
    · rw [List.getElem?_eq_none h] at ha; cases ha
  obtain ⟨g, off, rfl, hc⟩ := h.reads.2.resolve_left (by omega)
  have HC := Lib.hid hc
  have HA := Lib.hid ha
  have HB := Lib.hid hb
  clear h ha hb hc
  go_enter Try.func85, Try.ntmps85
  go_wp2_with fail
  go_loopw [8] (fun i wr => ∃ k : Nat, k ≤ a ∧ i = .int .i64 (k : Int) ∧ wr = w) (fun i _ => n - (intOf i).toNat)
  case atStart => exact ⟨0, by omega, rfl, rfl⟩
  case round =>
    obtain ⟨k, hk, rfl, rfl⟩ := hrel
    have t1 : decide ((k : Int) < (n : Int)) = true := decide_eq_true (by omega)
    have t1' : decide (k < n) = true := decide_eq_true (by omega)
    obtain ⟨y, hy⟩ : ∃ y, l[k]? = some y := ⟨_, List.getElem?_eq_getElem (show k < l.length by omega)⟩
    have c0 := HC.out k _ (ivs_get hy)
    by_cases e : k = a
    · subst e
      obtain rfl : y = x := by rw [HA.out] at hy; injection hy with hy; exact hy.symm
      clear hy
      go_wp2_with fail
      go_ret
      exact ⟨rfl, rfl⟩
    · have z1 : ((x : Int) == (y : Int)) = false := beq_eq_false_iff_ne.2 fun h => HB.out k (by omega) (by rw [hy, show x = y by omega])
      have z1' : (x == y) = false := beq_eq_false_iff_ne.2 fun h => HB.out k (by omega) (by rw [hy, h])
      clear hy
      go_wp2_with fail
      go_roundw
      case rel => exact ⟨k + 1, by omega, by go_num, by first | rfl | trivial⟩
      case measure => simp [intOf]; omega
theorem Delete_o {A : Option Addr} {n c i : Nat} {l : List Nat} (H : St w0 S0 w L) (hi : L[i]? = some (LisR 3 1 (.slice A n c) n (ivs l))) (hn1 : n ≤ 1000) (a : Nat) (ha : a < n) :
    Calls Try.prog 86 #[.slice A n c, .int .i64 (a : Int), .int .i64 ((a : Int) + 1)] w fun e w' => e = .returned (.slice A (n - 1) c) ∧ St w0 S0 w' (L.set i (LisR 3 1 (.slice A (n - 1) c) (n - 1) (ivs (l.eraseIdx a)))) := by
  have h := H.lis i hi
  have hl : l.length = n := by have := h.1; rw [ivs_len] at this; omega
  have hcap : n ≤ c ∧ c ≤ maxLen := by
    obtain ⟨A', c', hv, h1, h2⟩ := h.shape
    injection hv with _ _ hv
    subst hv; exact ⟨h1, h2⟩
  obtain ⟨iI, hiI, hzI, hsI, hbI⟩ := info3 Try.infoInt
  have t1 : decide ((0 : Int) ≤ (a : Int)) = true := decide_eq_true (by omega)
  have t2 : decide ((a : Int) ≤ (a : Int) + 1) = true := decide_eq_true (by omega)
  have t3 : decide ((a : Int) + 1 ≤ (n : Int)) = true := decide_eq_true (by omega)
  have t4 : ((a : Int) == (a : Int) + 1) = false := beq_eq_false_iff_ne.2 (by omega)
  have t5 : a ≤ c := by omega
  have t6 : a + 1 ≤ n := by omega
  have t7 : (0 : Int) ≤ (a : Int) + 1 := by omega
  have t8 : (a : Int) + 1 ≤ (n : Int) := by omega
  obtain ⟨g, off, rfl, hc⟩ := h.reads.2.resolve_left (by omega)
  have HH := Lib.hid H
  have hd : Lis w.drew 3 1 (.slice (some ⟨g, off, none⟩) n c) n (ivs l) := h.keep fun _ _ => rfl
  have hdl : ((ivs l).drop (a + 1)).length = (n - (a + 1)) * 1 := by rw [List.length_drop, ivs_len]; omega
  have HDL := Lib.hid hdl
  have HC := Lib.hid (show ∀ j u, ((ivs l).drop (a + 1))[j]? = some u → w.drew.cell? ⟨g, off + (a + 1) + j, none⟩ = some u from fun j u hu => by
    rw [List.getElem?_drop] at hu
    have := hc _ _ hu
    rw [← Nat.add_assoc] at this
    exact this)
  have HW := Lib.hid (lis_within hd a ((ivs l).drop (a + 1)) (by omega))
  have HSP := Lib.hid (show ∀ j, j < ((ivs l).drop (a + 1)).length → (w.drew.cell? ⟨g, off + a * 1 + j, none⟩).isSome = true ∧ w.drew.frozen? ⟨g, off + a * 1 + j, none⟩ = false from fun j hj => by
    rw [hdl] at hj
    have hc2 := hc (a + j) _ (List.getElem?_eq_getElem (by rw [ivs_len]; omega))
    refine ⟨?_, hd.frozen _⟩
    rw [Nat.mul_one, Nat.add_assoc]
    have hc3 : w.drew.cell? ⟨g, off + (a + j), none⟩ = some _ := hc2
    rw [hc3]; rfl)
  have H1 := Lib.hid (show ∀ u ∈ (ivs l).drop (a + 1), u.oneCell' = true from fun u hu => ivs_one l u (List.mem_of_mem_drop hu))
  unfold maxLen at hcap
  clear h H hc hdl hd
  go_enter Try.func86, Try.ntmps86
  go_wp2_with fail
  by_cases hca : c = a + 1
  case pos =>
    subst hca
    obtain rfl : n = a + 1 := by omega
    have t9 : (a : Int) ≤ (a : Int) + 1 := by omega
    have hn0 : (ivs l).drop (a + 1) = [] := List.eq_nil_of_length_eq_zero (by rw [HDL.out]; omega)
    have HN0 := Lib.hid hn0
    have s1 := HH.out.drew
    have c1 := (s1.lis i hi).reads.2.resolve_left (by omega)
    obtain ⟨g', off', hgo, hcc⟩ := c1
    obtain ⟨rfl, rfl⟩ : g = g' ∧ off = off' := by simpa using hgo
    obtain ⟨y, hy⟩ : ∃ y, (ivs l)[a]? = some y := ⟨_, List.getElem?_eq_getElem (by rw [ivs_len]; omega)⟩
    have k0 := hcc a y hy
    have f0 := (s1.lis i hi).frozen (off + a)
    have k1 : (w.drew.cell? ⟨g, off + a, none⟩).isSome = true := by rw [k0]; rfl
    have s2 := s1.lis_set i hi (show a < (a + 1) * 1 by omega) (.int .i64 0)
    have s3 := s2.lis_as i (set_at hi) ((s2.lis i (set_at hi)).upto (show a ≤ a + 1 by omega)) (fun g hg => hg)
    rw [List.set_set] at s3
    have el : ((ivs l).set a (.int .i64 0)).take (a * 1) = ivs (l.eraseIdx a) := by
      rw [Nat.mul_one, List.take_set_of_le (Nat.le_refl _)]
      have : l.eraseIdx a = l.take a := by rw [List.eraseIdx_eq_take_drop_succ, List.drop_eq_nil_of_le (by omega), List.append_nil]
      rw [this]; unfold ivs; rw [List.map_take]
    rw [el] at s3
    have S3 := Lib.hid s3
    clear hn0 s1 s2 s3 hcc hgo hy el
    go_region_law (first
      | (refine step_append_room (by rfl) _ _ _ (by rfl) 3 iI 1 Try.underlying39 hiI hsI g off a (a + 1) (by rfl) ⟨g, off, none⟩ 0 0 [] (by rfl) rfl (by intro j u hu; simp at hu) (by intro u hu; cases hu) (by omega) (by intro j hj; simp at hj) ?_))
    all_goals
      go_wp2_with (refine wpList_clear1 rfl (.tmp 31) 39 rfl 3 (.int .i64 0) Try.underlying39 zero_int rfl rfl (g := g) (of := off + a) (cap := 1) (by rfl) k1 f0 ?_)
      go_wp2_with fail
      go_ret
      exact ⟨by simp, S3.out⟩
  case neg =>
    go_region_law (first
      | (refine step_append_room (by rfl) _ _ _ (by rfl) 3 iI 1 Try.underlying39 hiI hsI g off a c (by rfl) ⟨g, off + (a + 1), none⟩ (n - (a + 1)) (c - (a + 1)) ((ivs l).drop (a + 1)) (by rfl) HDL.out (by intro j u hu; rw [Go.WideShapes.add_plain]; exact HC.out j u hu) H1.out (by omega) HSP.out ?_))
    all_goals
      have s1 := HH.out.drew.lis_only i hi HW.out.1 HW.out.2
      rw [show a + (n - (a + 1)) = n - 1 by omega]
      obtain ⟨k, hk⟩ : ∃ k, n - 1 = k := ⟨_, rfl⟩
      rw [hk]
      have HK := Lib.hid hk
      have hkn : k < n := by omega
      have s1' := s1
      generalize w.drew.setCells g (off + a) (List.drop (a + 1) (ivs l)) = W at *
      obtain ⟨g', off', hgo, hcc⟩ := (s1.lis i (set_at hi)).reads.2.resolve_left (by omega)
      obtain ⟨rfl, rfl⟩ : g = g' ∧ off = off' := by simpa using hgo
      have hdr := HDL.out
      have hxl : ((ivs l).take a ++ (ivs l).drop (a + 1) ++ (ivs l).drop (a + ((ivs l).drop (a + 1)).length)).length = n := by
        have := (s1.lis i (set_at hi)).1; omega
      obtain ⟨y, hy⟩ : ∃ y, ((ivs l).take a ++ (ivs l).drop (a + 1) ++ (ivs l).drop (a + ((ivs l).drop (a + 1)).length))[k]? = some y := ⟨_, List.getElem?_eq_getElem (by rw [hxl]; omega)⟩
      have k0 := hcc k y hy
      have f0 := (s1.lis i (set_at hi)).frozen (off + k)
      have k1 : (W.cell? ⟨g, off + k, none⟩).isSome = true := by rw [k0]; rfl
      have s2 := s1.lis_set i (set_at hi) (show k < n * 1 by omega) (.int .i64 0)
      rw [List.set_set] at s2
      have s3 := s2.lis_as i (set_at hi) ((s2.lis i (set_at hi)).upto (show k ≤ n by omega)) (fun g hg => hg)
      rw [List.set_set] at s3
      have el : (((ivs l).take a ++ (ivs l).drop (a + 1) ++ (ivs l).drop (a + ((ivs l).drop (a + 1)).length)).set k (.int .i64 0)).take (k * 1) = ivs (l.eraseIdx a) := by
        rw [Nat.mul_one, List.take_set_of_le (Nat.le_refl _), List.take_left' (by rw [List.length_append, List.length_take, ivs_len, hdr]; omega), List.eraseIdx_eq_take_drop_succ, ivs_app]
        unfold ivs; rw [List.map_take, List.map_drop]
      rw [el] at s3
      have S3 := Lib.hid s3
      have v1 : k ≤ n := by omega
      have v2 : n ≤ c := by omega
      have v3 : ¬ c = k := by omega
      have v4 : n - k = 1 := by omega
      have v5 : (k : Int) ≤ (n : Int) := by omega
      have v6 : (n : Int) ≤ (c : Int) := by omega
      clear s1 s1' s2 s3 hcc hgo hy el hxl hdr hk
      go_wp2_with (refine wpList_clear1 rfl (.tmp 31) 39 rfl 3 (.int .i64 0) Try.underlying39 zero_int rfl rfl (g := g) (of := off + k) (cap := c - k) (by rfl) k1 f0 ?_)
      go_wp2_with fail
      go_ret
      exact ⟨by rw [HK.out]; rfl, by rw [HK.out]; exact S3.out⟩
end
end Go.Proofs.Ytdemhhmceiaohaa
