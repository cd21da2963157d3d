/- When the plain configuration is right that has become another one in one place. -/
import Derived.Test.YtogeggklfcabkaaCPlainC
namespace Go.Proofs.Ytogeggklfcabkaa
open Go.RowKit
set_option linter.unusedVariables false
set_option linter.unusedSimpArgs false
set_option maxRecDepth 100000
theorem pl_addrs : addrsB pl = true := by decide +kernel
theorem pl_macs : macsB pl = true := by decide +kernel
theorem pl_uuid : uuidB pl.uuid = true := by decide +kernel
theorem pl_counts : countsB pl = true := by decide +kernel
theorem pl_dmz : dmzB pl = true := by decide +kernel
theorem fwds_nil (c : Cfg) : fwdsB c [] = true := rfl
theorem check_pl : checkB pl [] = true := by
  unfold checkB; rw [pl_addrs, pl_macs, pl_counts, pl_dmz, pl_uuid, fwds_nil]; rfl
theorem one0 (n : Int) : checkB { pl with ms := n } [] = btw n 1 4096 := by
  unfold checkB
  rw [show addrsB { pl with ms := n } = true from pl_addrs, show macsB { pl with ms := n } = true from pl_macs, show dmzB { pl with ms := n } = true from pl_dmz, show uuidB ({ pl with ms := n } : Cfg).uuid = true from pl_uuid, fwds_nil]
  show (true && true && (btw n 1 4096 && btw 4 1 256 && btw 3 1 32 && btw 2 1 16) && true && true && true) = _
  rw [show btw 4 1 256 = true from rfl, show btw 3 1 32 = true from rfl, show btw 2 1 16 = true from rfl]; simp
theorem one1 (n : Int) : checkB { pl with mm := n } [] = btw n 1 256 := by
  unfold checkB
  rw [show addrsB { pl with mm := n } = true from pl_addrs, show macsB { pl with mm := n } = true from pl_macs, show dmzB { pl with mm := n } = true from pl_dmz, show uuidB ({ pl with mm := n } : Cfg).uuid = true from pl_uuid, fwds_nil]
  show (true && true && (btw 8 1 4096 && btw n 1 256 && btw 3 1 32 && btw 2 1 16) && true && true && true) = _
  rw [show btw 8 1 4096 = true from rfl, show btw 3 1 32 = true from rfl, show btw 2 1 16 = true from rfl]; simp
theorem one2 (n : Int) : checkB { pl with mc := n } [] = btw n 1 32 := by
  unfold checkB
  rw [show addrsB { pl with mc := n } = true from pl_addrs, show macsB { pl with mc := n } = true from pl_macs, show dmzB { pl with mc := n } = true from pl_dmz, show uuidB ({ pl with mc := n } : Cfg).uuid = true from pl_uuid, fwds_nil]
  show (true && true && (btw 8 1 4096 && btw 4 1 256 && btw n 1 32 && btw 2 1 16) && true && true && true) = _
  rw [show btw 8 1 4096 = true from rfl, show btw 4 1 256 = true from rfl, show btw 2 1 16 = true from rfl]; simp
theorem one3 (n : Int) : checkB { pl with mb := n } [] = btw n 1 16 := by
  unfold checkB
  rw [show addrsB { pl with mb := n } = true from pl_addrs, show macsB { pl with mb := n } = true from pl_macs, show dmzB { pl with mb := n } = true from pl_dmz, show uuidB ({ pl with mb := n } : Cfg).uuid = true from pl_uuid, fwds_nil]
  show (true && true && (btw 8 1 4096 && btw 4 1 256 && btw 3 1 32 && btw n 1 16) && true && true && true) = _
  rw [show btw 8 1 4096 = true from rfl, show btw 4 1 256 = true from rfl, show btw 3 1 32 = true from rfl]; simp
theorem nets (k : Nat) (h : 8 ≤ k) (h2 : k ≤ 30) : innerB 3232235777 (k : Int) = true ∧ winB 3405803781 3232235777 (k : Int) = false := by
  have key : ∀ k, k < 31 → 8 ≤ k → (innerB 3232235777 ((k : Nat) : Int) = true ∧ winB 3405803781 3232235777 ((k : Nat) : Int) = false) := by decide +kernel
  exact key k (by omega) h
theorem one4 (n : Int) : checkB { pl with nb := n } [] = btw n 8 30 := by
  unfold checkB
  rw [show macsB { pl with nb := n } = true from pl_macs, show countsB { pl with nb := n } = true from pl_counts, show uuidB ({ pl with nb := n } : Cfg).uuid = true from pl_uuid, fwds_nil, show dmzB { pl with nb := n } = true from rfl]
  unfold addrsB
  show ((btw n 8 30 && innerB 3232235777 n && !decide (3405803781 = 0) && !decide (3405803781 = 4294967295) && !winB 3405803781 3232235777 n) && true && true && true && true && true) = _
  by_cases h : 8 ≤ n ∧ n ≤ 30
  · obtain ⟨k, rfl⟩ := Int.eq_ofNat_of_zero_le (show 0 ≤ n by omega)
    obtain ⟨h1, h2⟩ := nets k (by omega) (by omega)
    rw [h1, h2]; simp
  · have : btw n 8 30 = false := by unfold btw; simp; omega
    rw [this]; rfl
theorem hosts24 (m : Nat) (h : m ≤ 255) : (hostB 3232235777 24 (3232235776 + m)) = (decide (1 < m) && decide (m < 255)) := by
  have key : ∀ m, m < 256 → hostB 3232235777 24 (3232235776 + m) = (decide (1 < m) && decide (m < 255)) := by decide +kernel
  exact key m (by omega)
theorem one5 (m : Nat) (h : m ≤ 255) : checkB { pl with dmz := 3232235776 + m } [] = (decide (1 < m) && decide (m < 255)) := by
  unfold checkB
  rw [show addrsB { pl with dmz := 3232235776 + m } = true from pl_addrs, show macsB { pl with dmz := 3232235776 + m } = true from pl_macs, show countsB { pl with dmz := 3232235776 + m } = true from pl_counts, show uuidB ({ pl with dmz := 3232235776 + m } : Cfg).uuid = true from pl_uuid, fwds_nil]
  unfold dmzB
  show (true && true && true && true && (decide (3232235776 + m = 0) || hostB 3232235777 24 (3232235776 + m)) && true) = _
  rw [hosts24 m h, show decide (3232235776 + m = 0) = false by simp]; simp
theorem host7 : hostB 3232235777 24 3232235783 = true := by decide +kernel
theorem host8 : hostB 3232235777 24 3232235784 = true := by decide +kernel
theorem one6 (p : Nat) : checkB pl [(p, 80, 80, 3232235783)] = (decide (p = 6) || decide (p = 17)) := by
  unfold checkB
  rw [pl_addrs, pl_macs, pl_counts, pl_dmz, pl_uuid]
  have : fwdsB pl [(p, 80, 80, 3232235783)] = (!false && ((decide (p = 6) || decide (p = 17)) && true && true && hostB 3232235777 24 3232235783) && true) := rfl
  rw [this, host7]; simp
theorem one7 (q : Nat) : checkB pl [(6, q, 80, 3232235783), (6, 80, 81, 3232235784), (17, 80, 81, 3232235784)] = (decide (q ≠ 0) && decide (q ≠ 80)) := by
  unfold checkB
  rw [pl_addrs, pl_macs, pl_counts, pl_dmz, pl_uuid]
  have h0 : okI pl [(6, q, 80, 3232235783), (6, 80, 81, 3232235784), (17, 80, 81, 3232235784)] 0 = decide (0 < q) := by
    show (!false && ((true || false) && decide (0 < q) && true && hostB 3232235777 24 3232235783)) = _
    rw [host7]; simp
  have h1 : okI pl [(6, q, 80, 3232235783), (6, 80, 81, 3232235784), (17, 80, 81, 3232235784)] 1 = !(q == 80) := by
    show (!(findL [(6, q, 80, 3232235783)] 6 80).isSome && ((true || false) && true && true && hostB 3232235777 24 3232235784)) = _
    rw [host8]
    have : findL [(6, q, 80, 3232235783)] 6 80 = if (q == 80) = true then some (6, q, 80, 3232235783) else none := by
      unfold findL hitB
      by_cases h : q = 80
      · simp [List.find?, h]
      · have hb : (q == 80) = false := by simpa using h
        simp [List.find?, hb]
    rw [this]; by_cases h : q = 80 <;> simp [h]
  have h2 : okI pl [(6, q, 80, 3232235783), (6, 80, 81, 3232235784), (17, 80, 81, 3232235784)] 2 = true := by
    show (!(findL [(6, q, 80, 3232235783), (6, 80, 81, 3232235784)] 17 80).isSome && ((false || true) && true && true && hostB 3232235777 24 3232235784)) = _
    rw [host8]
    have : findL [(6, q, 80, 3232235783), (6, 80, 81, 3232235784)] 17 80 = none := by unfold findL hitB; simp [List.find?]
    rw [this]; rfl
  have : fwdsB pl [(6, q, 80, 3232235783), (6, 80, 81, 3232235784), (17, 80, 81, 3232235784)] = (true && (okI pl [(6, q, 80, 3232235783), (6, 80, 81, 3232235784), (17, 80, 81, 3232235784)] 0 && (okI pl [(6, q, 80, 3232235783), (6, 80, 81, 3232235784), (17, 80, 81, 3232235784)] 1 && (okI pl [(6, q, 80, 3232235783), (6, 80, 81, 3232235784), (17, 80, 81, 3232235784)] 2 && true)))) := rfl
  rw [this, h0, h1, h2, Bool.eq_iff_iff]; simp; omega
end Go.Proofs.Ytogeggklfcabkaa
