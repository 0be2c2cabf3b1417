import Derived.Test.YtjobgpahajhbnaaGreatDoorWb
namespace Go.Proofs.YtjobgpahajhbnaaGreatDoor
open Go.RowKit
theorem u8_eq (c : UInt8) (n : Nat) (h : n < 256) : ((c.toNat : Int) == (n : Int)) = (c == UInt8.ofNat n) := by
  rw [Bool.eq_iff_iff]
  simp only [beq_iff_eq]
  constructor
  · intro e
    apply UInt8.toNat_inj.1
    rw [UInt8.toNat_ofNat_of_lt' (by simpa using h)]
    omega
  · intro e
    rw [e, UInt8.toNat_ofNat_of_lt' (by simpa using h)]
theorem rch_br (s : ByteArray) (a : Nat) (h : a < s.size) (hd : digB (s[a].toNat : Int) = false) (h9 : ((s[a].toNat : Int) == 95) = false) (hl : letB (s[a].toNat : Int) = false) (hb : ((s[a].toNat : Int) == 40) = true ∨ ((s[a].toNat : Int) == 41) = true) :
    rch s a = (a : Int) + 1 := by
  have h1 : dU s[a] = false := hd
  have h3 : lU s[a] = false := hl
  have h2 : (s[a] == 95) = false := (u8_eq s[a] 95 (by decide)).symm.trans h9
  have h4 : (s[a] == 40 || s[a] == 41) = true := by
    rcases hb with hb | hb
    · rw [show (s[a] == 40) = true from (u8_eq s[a] 40 (by decide)).symm.trans hb]; rfl
    · rw [show (s[a] == 41) = true from (u8_eq s[a] 41 (by decide)).symm.trans hb]; simp
  rw [rch_at s a h]
  simp only [tl, h1, h2, h3, h4, cond_true, cond_false]
  rfl
theorem rch_sg (s : ByteArray) (a : Nat) (h : a < s.size) (hd : digB (s[a].toNat : Int) = false) (h9 : ((s[a].toNat : Int) == 95) = false) (hl : letB (s[a].toNat : Int) = false) (hb : ((s[a].toNat : Int) == 40) = false) (hc : ((s[a].toNat : Int) == 41) = false)
    (hg : sgnB (s[a].toNat : Int) = true) :
    rch s a = (a : Int) + sgnE (s.data.toList.drop (a + 1)) := by
  have h1 : dU s[a] = false := hd
  have h3 : lU s[a] = false := hl
  have h2 : (s[a] == 95) = false := (u8_eq s[a] 95 (by decide)).symm.trans h9
  have h4 : (s[a] == 40 || s[a] == 41) = false := by
    rw [show (s[a] == 40) = false from (u8_eq s[a] 40 (by decide)).symm.trans hb, show (s[a] == 41) = false from (u8_eq s[a] 41 (by decide)).symm.trans hc]; rfl
  have h5 : gU s[a] = true := hg
  rw [rch_at s a h]
  simp only [tl, h1, h2, h3, h4, h5, cond_true, cond_false]
  simp
theorem rch_no (s : ByteArray) (a : Nat) (h : a < s.size) (hd : digB (s[a].toNat : Int) = false) (h9 : ((s[a].toNat : Int) == 95) = false) (hl : letB (s[a].toNat : Int) = false) (hb : ((s[a].toNat : Int) == 40) = false) (hc : ((s[a].toNat : Int) == 41) = false)
    (hg : sgnB (s[a].toNat : Int) = false) : rch s a = -1 := by
  have h1 : dU s[a] = false := hd
  have h3 : lU s[a] = false := hl
  have h2 : (s[a] == 95) = false := (u8_eq s[a] 95 (by decide)).symm.trans h9
  have h4 : (s[a] == 40 || s[a] == 41) = false := by
    rw [show (s[a] == 40) = false from (u8_eq s[a] 40 (by decide)).symm.trans hb, show (s[a] == 41) = false from (u8_eq s[a] 41 (by decide)).symm.trans hc]; rfl
  have h5 : gU s[a] = false := hg
  rw [rch_at s a h]
  simp only [tl, h1, h2, h3, h4, h5, cond_false]
theorem sgnE_end (s : ByteArray) (b : Nat) (h : s.size ≤ b) : sgnE (s.data.toList.drop b) = 1 := by
  rw [List.drop_eq_nil_of_le (by simpa using h)]; rfl
theorem sgnE_two (s : ByteArray) (b : Nat) (h : b < s.size) (ht : ((s[b].toNat : Int) == 47) = true ∨ ((s[b].toNat : Int) == 92) = true ∨ ((s[b].toNat : Int) == 46) = true) : sgnE (s.data.toList.drop b) = 2 := by
  rw [drop_cons s b h]
  have : tailU s[b] = true := by
    unfold tailU
    rcases ht with ht | ht | ht
    · rw [show (s[b] == 47) = true from (u8_eq s[b] 47 (by decide)).symm.trans ht]; rfl
    · rw [show (s[b] == 92) = true from (u8_eq s[b] 92 (by decide)).symm.trans ht]; simp
    · rw [show (s[b] == 46) = true from (u8_eq s[b] 46 (by decide)).symm.trans ht]; simp
  simp only [sgnE, this, if_true]
theorem sgnE_one (s : ByteArray) (b : Nat) (h : b < s.size) (h1 : ((s[b].toNat : Int) == 47) = false) (h2 : ((s[b].toNat : Int) == 92) = false) (h3 : ((s[b].toNat : Int) == 46) = false) : sgnE (s.data.toList.drop b) = 1 := by
  rw [drop_cons s b h]
  have : tailU s[b] = false := by
    unfold tailU
    rw [show (s[b] == 47) = false from (u8_eq s[b] 47 (by decide)).symm.trans h1, show (s[b] == 92) = false from (u8_eq s[b] 92 (by decide)).symm.trans h2, show (s[b] == 46) = false from (u8_eq s[b] 46 (by decide)).symm.trans h3]; rfl
  simp only [sgnE, this]
  rfl
end Go.Proofs.YtjobgpahajhbnaaGreatDoor
