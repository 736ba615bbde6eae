/-
  Contracts of the model: locks, in the program's terms.
-/
import Derived.Test.YtoocibabceeagabGreatUc
import Derived.Test.YtoocibabceeagabGreatZk
namespace Go.Proofs.YtoocibabceeagabGreat
open Go.RowKit

theorem LkQ.ofR {l : List Jo} {w : World} {e : Ending} {w' : World} (hok : Jo.ok l = true) (h : LkR l w e w') : LkQ true l w e w' := by
  unfold LkR at h
  rw [hok] at h
  exact h
theorem LkQ.ofN {l : List Jo} {w : World} {e : Ending} {w' : World} (h : LkN w e w') : LkQ false l w e w' := h
theorem specLockKey_any (key : Int) (w : World) : Calls Tryz.prog 42 #[.int .i64 key] w (LkQ (Gr.kok key) (Lk.key key) w) := by
  cases h : Gr.kok key
  · exact (LockKey_no key w h).mono fun e w' g => LkQ.ofN g
  · exact (LockKey_yes key w h).mono fun e w' g => LkQ.ofR (Lk.ok_key key) g
theorem specLockDigest_any (d : Int) (w : World) : Calls Tryz.prog 148 #[.int .i64 d] w (LkQ (decide (0 ≤ d) && decide (d ≤ 4294967295)) (Lk.digest d) w) := by
  by_cases h : 0 ≤ d ∧ d ≤ 4294967295
  · rw [Dg.yes h.1 h.2]
    exact (LockDigest_yes d w h.1 h.2).mono fun e w' g => LkQ.ofR (Lk.ok_digest d) g
  · rw [Dg.no (by omega)]
    exact (LockDigest_no d w h).mono fun e w' g => LkQ.ofN g
theorem specLockMany_any (need : Int) (a : Option Addr) (len cap : Nat) (zs : List Int) (w : World) (hz : IR w a len zs) (hlen : len ≤ 9223372036854775807) :
    Calls Tryz.prog 149 #[.int .i64 need, .slice a len cap] w (LkQ (Lk.manyOk need zs) (Lk.many need zs) w) := by
  have hcon := LockMany_eq need a len cap zs w hz hlen
  cases h : Lk.manyOk need zs
  · exact hcon.mono fun e w' g => LkQ.ofN (g.2 h)
  · exact hcon.mono fun e w' g => LkQ.ofR (Lk.ok_many' h) (g.1 h)
theorem specLockTimed_any (d payee height payer : Int) (w : World) : Calls Tryz.prog 76 #[.int .i64 d, .int .i64 payee, .int .i64 height, .int .i64 payer] w (LkQ (Lk.timedOk d payee height payer) (Lk.timed d payee height payer) w) := by
  have hcon := LockTimed_eq d payee height payer w
  cases h : Lk.timedOk d payee height payer
  · exact hcon.mono fun e w' g => LkQ.ofN (g.2 h)
  · exact hcon.mono fun e w' g => LkQ.ofR (Lk.ok_timed' h) (g.1 h)
theorem specLockRevocable_any (revoke delay owner : Int) (w : World) : Calls Tryz.prog 150 #[.int .i64 revoke, .int .i64 delay, .int .i64 owner] w (LkQ (Lk.revocableOk revoke delay owner) (Lk.revocable revoke delay owner) w) := by
  have hcon := LockRevocable_eq revoke delay owner w
  cases h : Lk.revocableOk revoke delay owner
  · exact hcon.mono fun e w' g => LkQ.ofN (g.2 h)
  · exact hcon.mono fun e w' g => LkQ.ofR (Lk.ok_revocable' h) (g.1 h)
end Go.Proofs.YtoocibabceeagabGreat
