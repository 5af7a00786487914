/- Layer 15: the document's own queue: Change; all its calls beside other things. -/
import Derived.Test.YtebcdpgalbibkaaReadyT
import Derived.Test.YtebcdpgalbibkaaReadyI
namespace Go.Proofs.Ytebcdpgalbibkaa
open Go.RowKit
set_option linter.unusedVariables false
set_option maxRecDepth 100000
set_option maxHeartbeats 1000000
section
variable {w0 w w' : World} {S0 S : Nat → Prop} {L : List Res} {r i : Nat} {s s' : QS}
theorem RCome_o {m : Nat} (H : St w0 S0 w L) (hi : L[i]? = some (RQR r s.all)) (hs : s.ok m) (id p f : Int) (hP : ComeP s id p f s') :
    Calls Try.prog 11 #[.pointer (some ⟨r, 0, none⟩), .int .i64 id, .int .i64 p] w fun e w' => e = .returned (.int .i64 f) ∧ St w0 S0 w' (L.set i (RQR r s'.all)) :=
  St.call (fun w S h => RCome_c h hs id p f hP) (RQR.ok _ _) H i hi
theorem RGo_o {m : Nat} (H : St w0 S0 w L) (hi : L[i]? = some (RQR r s.all)) (hs : s.ok m) (id f : Int) (hP : GoP s id f s') :
    Calls Try.prog 13 #[.pointer (some ⟨r, 0, none⟩), .int .i64 id] w fun e w' => e = .returned (.int .i64 f) ∧ St w0 S0 w' (L.set i (RQR r s'.all)) :=
  St.call (fun w S h => RGo_c h hs id f hP) (RQR.ok _ _) H i hi
theorem RFirst_o {m : Nat} (H : St w0 S0 w L) (hi : L[i]? = some (RQR r s.all)) (hs : s.ok m) (a p f : Int) (hP : FirstP s a p f) :
    Calls Try.prog 17 #[.pointer (some ⟨r, 0, none⟩)] w fun e w' => e = .returned (.tuple #[.int .i64 a, .int .i64 p, .int .i64 f]) ∧ St w0 S0 w' L := by
  obtain ⟨S, h⟩ := H.get i hi
  exact looks (RFirst_c h (Nat.le_trans hs.len hs.mx) a p f hP) H
theorem RAll_o {m : Nat} (H : St w0 S0 w L) (hi : L[i]? = some (RQR r s.all)) (hs : s.ok m) :
    Calls Try.prog 20 #[.pointer (some ⟨r, 0, none⟩)] w fun e w' => ∃ B c, e = .returned (.slice B s.all.length c) ∧ St w0 S0 w' (L ++ [LisR 3 1 (.slice B s.all.length c) s.all.length (ivs s.ids)]) := by
  obtain ⟨S, h⟩ := H.get i hi
  refine (RAll_c h (Nat.le_trans hs.len hs.mx)).mono ?_
  rintro e w' ⟨B, c, rfl, s1⟩
  exact ⟨B, c, rfl, H.join s1⟩
theorem RChange_c {m : Nat} (h : RQR r s.all w S) (hs : s.ok m) (id q f : Int) (hP : ChangeP s id q f s') :
    Calls Try.prog 15 #[.pointer (some ⟨r, 0, none⟩), .int .i64 id, .int .i64 q] w fun e w' => e = .returned (.int .i64 f) ∧ ∃ S', RQR r s'.all w' S' ∧ Did S S' w w' := by
  have HQ := Lib.hid (show St w S w [RQR r s.all] from St.start (Star.one (RQR.ok _ _) h))
  have FI := Lib.hid (find_c h (Nat.le_trans hs.len hs.mx) id)
  have MY := Lib.hid (fun b hb => rmay_c id q w b hb)
  have hlen : s.all.length ≤ 1000 := Nat.le_trans hs.len hs.mx
  have HS := Lib.hid hs
  have HP := Lib.hid hP
  obtain ⟨A, c, hr⟩ := h
  have S0' := Lib.hid (St.start hr)
  clear hr hs hP
  by_cases hm : mayQ id q
  case neg =>
    obtain ⟨rfl, rfl⟩ : f = 1 ∧ s' = s := by
      rcases HP.out with ⟨_, h1, h2⟩ | ⟨h, _⟩ | ⟨h, _⟩ | ⟨h, _⟩
      · exact ⟨h1, h2⟩
      · exact absurd h hm
      · exact absurd h hm
      · exact absurd h hm
    have M2 := Lib.hid (MY.out false (decide_eq_false hm).symm)
    clear hm MY FI HP HQ
    go_enter Try.func15, Try.ntmps15
    go_wp2_with fail
    refine M2.out.mono ?_
    rintro e w1 ⟨rfl, rfl⟩
    go_wp2_with fail
    go_ret
    exact ⟨rfl, S0'.out.fin fun S' h => ⟨A, c, h⟩⟩
  have M2 := Lib.hid (MY.out true (decide_eq_true hm).symm)
  have HMQ := Lib.hid hm
  clear hm MY
  go_enter Try.func15, Try.ntmps15
  go_wp2_with fail
  refine M2.out.mono ?_
  rintro e w1 ⟨rfl, rfl⟩
  go_wp2_with fail
  refine FI.out.mono ?_
  rintro e w1 ⟨⟨z, rfl, hz⟩, rfl⟩
  rcases find_go HS.out hz with ⟨rfl, hno, -⟩ | ⟨i, j, u, rfl, rfl, hj, hp, hx⟩
  case inl =>
    obtain ⟨rfl, rfl⟩ : f = 6 ∧ s' = s := by
      rcases HP.out with ⟨h, _⟩ | ⟨_, _, h1, h2⟩ | ⟨hm, h, _⟩ | ⟨hm, ⟨u, h, _⟩, _⟩
      · exact absurd HMQ.out h
      · exact ⟨h1, h2⟩
      · exact absurd ⟨hm.1, by rw [h]; rfl⟩ hno
      · exact absurd ⟨hm.1, by rw [h]; rfl⟩ hno
    clear hz hno FI M2 HP HQ
    go_wp2_with fail
    go_ret
    exact ⟨rfl, S0'.out.fin fun S' h => ⟨A, c, h⟩⟩
  case inr =>
    obtain ⟨_, p0, p1⟩ := HMQ.out
    obtain ⟨p, rfl⟩ : ∃ p : Nat, (p : Int) = q := ⟨q.toNat, by omega⟩
    have q0 := (S0'.out.blk 0 rfl).one
    obtain ⟨b, off, rfl, m0, m1⟩ := mem_cell (S0'.out.lis 1 rfl) hx
    have m1 : w1.cell? ⟨b, off + i * 2 + 1, none⟩ = some (.int .i64 (u : Nat)) := m1
    have hin := (List.getElem?_eq_some_iff.1 hx).1
    have z1 : decide ((i : Int) < 0) = false := decide_eq_false (by omega)
    obtain ⟨n, hn⟩ : ∃ n, s.all.length = n := ⟨_, rfl⟩
    rw [hn] at q0 hin hlen
    clear hn
    by_cases e : u = p
    · obtain ⟨rfl, rfl⟩ : f = 0 ∧ s' = s := by
        rcases HP.out with ⟨h, _⟩ | ⟨_, h, _⟩ | ⟨_, _, h1, h2⟩ | ⟨_, ⟨u', h, h'⟩, _⟩
        · exact absurd HMQ.out h
        · exact absurd ⟨⟨by omega, by omega⟩, by rw [Int.toNat_natCast, hp]; rfl⟩ h
        · exact ⟨h1, h2⟩
        · rw [Int.toNat_natCast, hp] at h; injection h with h; exact absurd (by rw [Int.toNat_natCast]; omega) h'
      have y1 : ((u : Int) == (p : Int)) = true := beq_iff_eq.2 (by omega)
      have y2 : ((u : Int) != (p : Int)) = false := by simp [bne, y1]
      have y1' : (u == p) = true := beq_iff_eq.2 e
      have y2' : (u != p) = false := by simp [bne, y1']
      clear hz hx hp FI M2 HP HQ m0 e hlen
      go_wp2_with fail
      go_ret
      exact ⟨rfl, S0'.out.fin fun S' h => ⟨_, c, h⟩⟩
    · obtain ⟨rfl, rfl⟩ : f = 0 ∧ s' = (s.go j).come j p := by
        rcases HP.out with ⟨h, _⟩ | ⟨_, h, _⟩ | ⟨_, h, h1, h2⟩ | ⟨_, _, h1, h2⟩
        · exact absurd HMQ.out h
        · exact absurd ⟨⟨by omega, by omega⟩, by rw [Int.toNat_natCast, hp]; rfl⟩ h
        · rw [Int.toNat_natCast, Int.toNat_natCast, hp] at h; injection h with h; exact absurd h e
        · exact ⟨h1, by rw [h2, Int.toNat_natCast, Int.toNat_natCast]⟩
      have hh : hasQ s (j : Nat) := ⟨⟨by omega, by omega⟩, by rw [Int.toNat_natCast, hp]; rfl⟩
      have GO := Lib.hid (RGo_o (i := 0) HQ.out rfl HS.out (j : Nat) 0 (Or.inr ⟨hh, rfl, rfl⟩))
      have CO := Lib.hid (fun (W : World) (K : St w1 S W [RQR r (s.go j).all]) => RCome_o (i := 0) K rfl (HS.out.go j) (j : Nat) (p : Nat) 0 (s' := (s.go j).come j p) (Or.inr (Or.inr ⟨HMQ.out, go_none s j, rfl, by rw [Int.toNat_natCast, Int.toNat_natCast]⟩)))
      have y1 : ((u : Int) == (p : Int)) = false := beq_eq_false_iff_ne.2 (by omega)
      have y2 : ((u : Int) != (p : Int)) = true := by simp [bne, y1]
      have y1' : (u == p) = false := beq_eq_false_iff_ne.2 e
      have y2' : (u != p) = true := by simp [bne, y1']
      clear hz hx hp FI M2 HP HQ m0 e hlen hh
      go_wp2_with fail
      refine GO.out.mono ?_
      rintro e w2 ⟨rfl, s2'⟩
      have s2 : St w1 S w2 [RQR r (s.go j).all] := s2'
      have C2 := Lib.hid (CO.out _ s2)
      clear s2 s2' GO CO
      go_wp2_with fail
      refine C2.out.mono ?_
      rintro e w3 ⟨rfl, s3⟩
      go_wp2_with fail
      go_ret
      exact ⟨rfl, s3.fin fun S' h => star_one h⟩
theorem RChange_o {m : Nat} (H : St w0 S0 w L) (hi : L[i]? = some (RQR r s.all)) (hs : s.ok m) (id p f : Int) (hP : ChangeP s id p f s') :
    Calls Try.prog 15 #[.pointer (some ⟨r, 0, none⟩), .int .i64 id, .int .i64 p] w fun e w' => e = .returned (.int .i64 f) ∧ St w0 S0 w' (L.set i (RQR r s'.all)) :=
  St.call (fun w S h => RChange_c h hs id p f hP) (RQR.ok _ _) H i hi
end
end Go.Proofs.Ytebcdpgalbibkaa
