/- Layer 18: slices.Delete of requests; dropping. -/
import Derived.Test.YtmikjbhhnndncaaOrdF
import Derived.Test.YtmikjbhhnndncaaDel
import Derived.Deep.RegionLaw
namespace Go.Proofs.Ytmikjbhhnndncaa
open Go.RowKit
set_option linter.unusedVariables false
set_option maxRecDepth 100000
set_option maxHeartbeats 2000000
theorem Try.infoWant : (Try.prog.info? 32).map (fun i => (i.zero, i.size, i.bytes)) = some (some (.agg #[.int .i64 0, .int .u64 0, .int .i64 0]), 3, 24) := by kernel_rfl
theorem info3o {P : Program} {t : TypeId} {z : Value} {s b : Nat} (h : (P.info? t).map (fun i => (i.zero, i.size, i.bytes)) = some (some z, s, b)) : ∃ i, P.info? t = some i ∧ i.zero = some z ∧ i.size = s ∧ i.bytes = b := by
  cases hi : P.info? t with
  | none => rw [hi] at h; cases h
  | some i => rw [hi] at h; simp at h; exact ⟨i, rfl, h.1, h.2.1, h.2.2⟩
theorem zero_want (w : World) : (zeroValue 32).run Try.prog w = .ok (.agg #[.int .i64 0, .int .u64 0, .int .i64 0]) w := by kernel_rfl
def wz : List Value := [.int .i64 0, .int .u64 0, .int .i64 0]
theorem wz_cells : (Builtin.zeroCells (Value.agg #[.int .i64 0, .int .u64 0, .int .i64 0]).cells 1).toList = wz := by kernel_rfl
theorem wz_one : ∀ v ∈ wz, v.oneCell' = true := by intro v hv; simp [wz] at hv; rcases hv with rfl | rfl | rfl <;> rfl
section
variable {w0 w w' : World} {S0 S : Nat → Prop} {N L : List Res} {q : Nat} {s s' : OSt}
theorem DeleteW_o {A : Option Addr} {n c i : Nat} {l : List Wt} (H : St w0 S0 w L) (hi : L[i]? = some (LisR 32 3 (.slice A n c) n (ovs l))) (hn1 : n ≤ 1000) (a : Nat) (ha : a < n) :
    Calls Try.prog 29 #[.slice A n c, .int .i64 (a : Int), .int .i64 ((a : Int) + 1)] w fun e w' => e = .returned (.slice A (n - 1) c) ∧ St w0 S0 w' (L.set i (LisR 32 3 (.slice A (n - 1) c) (n - 1) (ovs (l.eraseIdx a)))) := by
  have h := H.lis i hi
  have hl := lis_len h
  have hcap : n ≤ c ∧ c ≤ maxLen := by
    obtain ⟨A', c', hv, h1, h2⟩ := h.shape
    injection hv with _ _ hv
    subst hv; exact ⟨h1, h2⟩
  obtain ⟨iI, hiI, hzI, hsI, hbI⟩ := info3o Try.infoWant
  have t1 : decide ((0 : Int) ≤ (a : Int)) = true := decide_eq_true (by omega)
  have t2 : decide ((a : Int) ≤ (a : Int) + 1) = true := decide_eq_true (by omega)
  have t3 : decide ((a : Int) + 1 ≤ (n : Int)) = true := decide_eq_true (by omega)
  have t4 : ((a : Int) == (a : Int) + 1) = false := beq_eq_false_iff_ne.2 (by omega)
  have t5 : a ≤ c := by omega
  have t6 : a + 1 ≤ n := by omega
  have t7 : (0 : Int) ≤ (a : Int) + 1 := by omega
  have t8 : (a : Int) + 1 ≤ (n : Int) := by omega
  obtain ⟨g, off, rfl, hc⟩ := h.reads.2.resolve_left (by omega)
  have HH := Lib.hid H
  have hd : Lis w.drew 32 3 (.slice (some ⟨g, off, none⟩) n c) n (ovs l) := h.keep fun _ _ => rfl
  have hol : (ovs l).length = n * 3 := by rw [ovs_len, hl]
  have hdl : ((ovs l).drop ((a + 1) * 3)).length = (n - (a + 1)) * 3 := by rw [List.length_drop, hol]; omega
  have HDL := Lib.hid hdl
  have HC := Lib.hid (show ∀ j u, ((ovs l).drop ((a + 1) * 3))[j]? = some u → w.drew.cell? ⟨g, off + (a + 1) * 3 + j, none⟩ = some u from fun j u hu => by
    rw [List.getElem?_drop] at hu
    have := hc _ _ hu
    rw [← Nat.add_assoc] at this
    exact this)
  have HW := Lib.hid (lis_within_m hd (a * 3) ((ovs l).drop ((a + 1) * 3)) (by omega) (by omega))
  have HSP := Lib.hid (show ∀ j, j < ((ovs l).drop ((a + 1) * 3)).length → (w.drew.cell? ⟨g, off + a * 3 + j, none⟩).isSome = true ∧ w.drew.frozen? ⟨g, off + a * 3 + j, none⟩ = false from fun j hj => by
    rw [hdl] at hj
    have hc2 := hc (a * 3 + j) _ (List.getElem?_eq_getElem (by rw [hol]; omega))
    refine ⟨?_, hd.frozen _⟩
    rw [Nat.add_assoc]
    have hc3 : w.drew.cell? ⟨g, off + (a * 3 + j), none⟩ = some _ := hc2
    rw [hc3]; rfl)
  have H1 := Lib.hid (show ∀ u ∈ (ovs l).drop ((a + 1) * 3), u.oneCell' = true from fun u hu => ovs_one l u (List.mem_of_mem_drop hu))
  have HOL := Lib.hid hol
  have HL := Lib.hid hl
  unfold maxLen at hcap
  clear h H hc hdl hd hol hl
  go_enter Try.func29, Try.ntmps29
  go_wp2_with fail
  by_cases hca : c = a + 1
  case pos =>
    subst hca
    obtain rfl : n = a + 1 := by omega
    have t9 : (a : Int) ≤ (a : Int) + 1 := by omega
    have hn0 : (ovs l).drop ((a + 1) * 3) = [] := List.eq_nil_of_length_eq_zero (by rw [HDL.out]; omega)
    have HN0 := Lib.hid hn0
    have s1 := HH.out.drew
    obtain ⟨g', off', hgo, hcc⟩ := (s1.lis i hi).reads.2.resolve_left (by omega)
    obtain ⟨rfl, rfl⟩ : g = g' ∧ off = off' := by simpa using hgo
    have k1 : ∀ j, j < wz.length → (w.drew.cell? ⟨g, off + a * 3 + j, none⟩).isSome = true := fun j hj => by
      have hj : j < 3 := hj
      have := hcc (a * 3 + j) _ (List.getElem?_eq_getElem (by rw [HOL.out]; omega))
      rw [Nat.add_assoc]
      have hc3 : w.drew.cell? ⟨g, off + (a * 3 + j), none⟩ = some _ := this
      rw [hc3]; rfl
    have f0 : ∀ j, j < wz.length → w.drew.frozen? ⟨g, off + a * 3 + j, none⟩ = false := fun j hj => (s1.lis i hi).frozen _
    have hwm := lis_within_m (s1.lis i hi) (a * 3) wz (by show a * 3 + 3 ≤ _; omega) (by omega)
    have s2 := s1.lis_only i hi hwm.1 hwm.2
    have s3 := s2.lis_as i (at_set hi) ((s2.lis i (at_set hi)).upto (show a ≤ a + 1 by omega)) (fun g hg => hg)
    rw [List.set_set] at s3
    have el : ((ovs l).take (a * 3) ++ wz ++ (ovs l).drop (a * 3 + wz.length)).take (a * 3) = ovs (l.eraseIdx a) := by
      rw [List.append_assoc, List.take_left' (by rw [List.length_take, HOL.out]; omega), ovs_take, List.eraseIdx_eq_take_drop_succ, List.drop_eq_nil_of_le (by rw [HL.out]; omega), List.append_nil]
    rw [el] at s3
    have S3 := Lib.hid s3
    have K1 := Lib.hid k1
    have F0 := Lib.hid f0
    clear hn0 s1 s2 s3 hcc hgo el k1 f0 hwm
    go_region_law (first
      | (refine step_append_room (by rfl) _ _ _ (by rfl) 32 iI 3 Try.underlying27 hiI hsI g off a (a + 1) (by rfl) ⟨g, off, none⟩ 0 0 [] (by rfl) rfl (by intro j u hu; simp at hu) (by intro u hu; cases hu) (by omega) (by intro j hj; simp at hj) ?_))
    all_goals
      go_wp2_with (refine wpList_clear_m rfl (.tmp 31) 27 rfl 32 (.agg #[.int .i64 0, .int .u64 0, .int .i64 0]) wz Try.underlying27 zero_want wz_cells wz_one (g := g) (of := off + a * 3) (cap := 1) (by rfl) K1.out F0.out ?_)
      go_wp2_with fail
      go_ret
      exact ⟨by simp, S3.out⟩
  case neg =>
    go_region_law (first
      | (refine step_append_room (by rfl) _ _ _ (by rfl) 32 iI 3 Try.underlying27 hiI hsI g off a c (by rfl) ⟨g, off + (a + 1) * 3, none⟩ (n - (a + 1)) (c - (a + 1)) ((ovs l).drop ((a + 1) * 3)) (by rfl) HDL.out (by intro j u hu; rw [Go.WideShapes.add_plain]; exact HC.out j u hu) H1.out (by omega) HSP.out ?_))
    all_goals
      have s1 := HH.out.drew.lis_only i hi HW.out.1 HW.out.2
      rw [show a + (n - (a + 1)) = n - 1 by omega]
      obtain ⟨k, hk⟩ : ∃ k, n - 1 = k := ⟨_, rfl⟩
      rw [hk]
      have HK := Lib.hid hk
      have hkn : k < n := by omega
      generalize w.drew.setCells g (off + a * 3) (List.drop ((a + 1) * 3) (ovs l)) = W at *
      obtain ⟨g', off', hgo, hcc⟩ := (s1.lis i (at_set hi)).reads.2.resolve_left (by omega)
      obtain ⟨rfl, rfl⟩ : g = g' ∧ off = off' := by simpa using hgo
      have hdr := HDL.out
      have hxl : ((ovs l).take (a * 3) ++ (ovs l).drop ((a + 1) * 3) ++ (ovs l).drop (a * 3 + ((ovs l).drop ((a + 1) * 3)).length)).length = n * 3 := (s1.lis i (at_set hi)).1
      have k1 : ∀ j, j < wz.length → (W.cell? ⟨g, off + k * 3 + j, none⟩).isSome = true := fun j hj => by
        have hj : j < 3 := hj
        have := hcc (k * 3 + j) _ (List.getElem?_eq_getElem (by rw [hxl]; omega))
        rw [Nat.add_assoc]
        have hc3 : W.cell? ⟨g, off + (k * 3 + j), none⟩ = some _ := this
        rw [hc3]; rfl
      have f0 : ∀ j, j < wz.length → W.frozen? ⟨g, off + k * 3 + j, none⟩ = false := fun j hj => (s1.lis i (at_set hi)).frozen _
      have hwm := lis_within_m (s1.lis i (at_set hi)) (k * 3) wz (by show k * 3 + 3 ≤ _; omega) (by omega)
      have s2 := s1.lis_only i (at_set hi) hwm.1 hwm.2
      rw [List.set_set] at s2
      have s3 := s2.lis_as i (at_set hi) ((s2.lis i (at_set hi)).upto (show k ≤ n by omega)) (fun g hg => hg)
      rw [List.set_set] at s3
      have el : (((ovs l).take (a * 3) ++ (ovs l).drop ((a + 1) * 3) ++ (ovs l).drop (a * 3 + ((ovs l).drop ((a + 1) * 3)).length)).take (k * 3) ++ wz ++ ((ovs l).take (a * 3) ++ (ovs l).drop ((a + 1) * 3) ++ (ovs l).drop (a * 3 + ((ovs l).drop ((a + 1) * 3)).length)).drop (k * 3 + wz.length)).take (k * 3) = ovs (l.eraseIdx a) := by
        have hol := HOL.out
        rw [List.append_assoc (List.take (k * 3) _), List.take_left' (by rw [List.length_take, hxl]; omega), List.take_left' (by rw [List.length_append, List.length_take, hol, hdr]; omega), List.eraseIdx_eq_take_drop_succ, ovs_app, ovs_take, ovs_drop]
      rw [el] at s3
      have S3 := Lib.hid s3
      have K1 := Lib.hid k1
      have F0 := Lib.hid f0
      have v1 : k ≤ n := by omega
      have v2 : n ≤ c := by omega
      have v3 : ¬ c = k := by omega
      have v4 : n - k = 1 := by omega
      have v5 : (k : Int) ≤ (n : Int) := by omega
      have v6 : (n : Int) ≤ (c : Int) := by omega
      clear s1 s2 s3 hcc hgo el hxl hdr hk k1 f0 hwm
      go_wp2_with (refine wpList_clear_m rfl (.tmp 31) 27 rfl 32 (.agg #[.int .i64 0, .int .u64 0, .int .i64 0]) wz Try.underlying27 zero_want wz_cells wz_one (g := g) (of := off + k * 3) (cap := c - k) (by rfl) K1.out F0.out ?_)
      go_wp2_with fail
      go_ret
      exact ⟨by rw [HK.out]; rfl, by rw [HK.out]; exact S3.out⟩
end
end Go.Proofs.Ytmikjbhhnndncaa
