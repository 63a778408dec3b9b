/-
  Tags that are laid, and read: plain mathematics of layer 5.
  No condition.
-/
import Derived.Test.YtkpopaadkfgjaaaTagF
namespace Go.Proofs.Ytkpopaadkfgjaaa
open Go.RowKit
set_option linter.unusedVariables false
set_option linter.unusedSimpArgs false

theorem unpack_pack {s : Nat} {u : Bool} {m : Nat} (h : mayP s u m) : packN s u m < 18446744073709551616 ∧ mayW (packN s u m) ∧ usz (packN s u m) = s ∧ uus (packN s u m) = u ∧ uow (packN s u m) = m := by
  have hm := h
  unfold mayP at hm
  have e : packN s u m = m * 4294967296 + s + (if u then 1 else 0) := by
    have := (if_pos h : packN s u m = (m : Int).toNat * 4294967296 + s + (if u then 1 else 0))
    rwa [Int.toNat_natCast] at this
  have hs : usz (packN s u m) = s := by rw [e]; unfold usz; cases u <;> simp only [if_true, if_false, Bool.false_eq_true] <;> omega
  have hu : uus (packN s u m) = u := by
    rw [e]
    unfold uus
    cases u
    · rw [decide_eq_false]; simp only [if_false, Bool.false_eq_true]; omega
    · rw [decide_eq_true]; simp only [if_true]; omega
  have ho : uow (packN s u m) = m := by rw [e]; unfold uow; cases u <;> simp only [if_true, if_false, Bool.false_eq_true] <;> omega
  refine ⟨?_, ?_, hs, hu, ho⟩
  · rw [e]; cases u <;> simp only [if_true, if_false, Bool.false_eq_true] <;> omega
  · unfold mayW
    rw [hs, hu, ho]
    exact h
section
variable {F : Nat → Nat} {off s : Nat} {u : Bool} {m : Nat}
theorem rd_laid (hm : mayP s u m) (h1 : F off = packN s u m) (h2 : F (off + s - 8) = packN s u m) (h3 : inP (F 16) off s) : rdS F off = s ∧ rdU F off = u ∧ rdO F off = m ∧ rdE F off = 0 := by
  obtain ⟨_, k1, k2, k3, k4⟩ := unpack_pack hm
  have hr : rdP F off := by
    unfold rdP
    rw [h1, k2]
    exact ⟨k1, h3, h2⟩
  obtain ⟨r1, r2, r3, r4⟩ := rd_yes hr
  rw [r1, r2, r3, r4, h1]
  exact ⟨k2, k3, k4, rfl⟩
theorem rd_else (hm : mayP s u m) (h1 : F off ≠ packN s u m) : rdE F off = 12 ∨ (rdE F off = 0 ∧ ¬ (rdS F off = s ∧ rdU F off = u ∧ rdO F off = m)) := by
  by_cases hr : rdP F off
  · obtain ⟨r1, r2, r3, r4⟩ := rd_yes hr
    refine .inr ⟨r4, fun ⟨e1, e2, e3⟩ => h1 ?_⟩
    rw [r1] at e1
    rw [r2] at e2
    rw [r3] at e3
    rw [← pack_unpack (F off) hr.1, e1, e2, e3]
  · exact .inl (rd_no hr).2.2.2
theorem rd_last (hm : mayP s u m) (h1 : F off = packN s u m) (h2 : F (off + s - 8) ≠ packN s u m) : rdE F off = 12 := by
  obtain ⟨_, k1, k2, k3, k4⟩ := unpack_pack hm
  refine (rd_no (fun hr => h2 ?_)).2.2.2
  have := hr.2.2
  rwa [h1, k2] at this
theorem rd_size (hm : mayP s u m) (h1 : F off = packN s u m) (h3 : ¬ inP (F 16) off s) : rdE F off = 12 := by
  obtain ⟨_, k1, k2, k3, k4⟩ := unpack_pack hm
  refine (rd_no (fun hr => h3 ?_)).2.2.2
  have := hr.2.1
  rwa [h1, k2] at this
end
/-- where words are thought of, whether they stand there or not -/
theorem see_store_any {ws : List Nat} {l : List (Nat × Nat)} {off v : Nat} (x : Nat) (hx : x ≠ off) : txSee ws (txStore ws l off v) x = txSee ws l x := by
  by_cases hs : stands ws off
  · rw [see_stored hs, if_neg hx]
  · unfold txStore
    rw [if_neg hs]
/-- What stands behind a tag that is laid, and one more word. -/
structure Laid (ws : List Nat) (off s b p : Nat) (l : List (Nat × Nat)) : Prop where
  hb : off + s - 8 = b
  l1 : off % 16 = 0 ∧ 3776 ≤ off ∧ off + 48 ≤ b + 8 ∧ b + 8 ≤ 4480 ∧ b % 8 = 0
  o : txSee ws l off = p
  e : txSee ws l b = p
  z : txSee ws l 16 = 4480
  len : ws.length = 600
theorem laid_of {off s : Nat} {u : Bool} {m : Nat} (hm : mayP s u m) (hi : inP 4480 off s) : Laid (fmt48 4480) off s (off + s - 8) (packN s u m) (txStore (fmt48 4480) (txStore (fmt48 4480) [] off (packN s u m)) (off + s - 8) (packN s u m)) := by
  have h : fitsP 4480 4800 := by unfold fitsP; omega
  have h16 : txSee (fmt48 4480) [] 16 = 4480 := by rw [fmt48_yes h, see_nil]; exact fmt48_16 h
  unfold mayP at hm
  unfold inP at hi
  have so : stands (fmt48 4480) off := stands48 (by omega) (by omega)
  have sb : stands (fmt48 4480) (off + s - 8) := stands48 (by omega) (by omega)
  refine ⟨rfl, by omega, ?_, ?_, ?_, fmt48_len _⟩
  · rw [see_stored sb, if_neg (by omega), see_stored so, if_pos rfl]
  · rw [see_stored sb, if_pos rfl]
  · rw [see_stored sb, if_neg (by omega), see_stored so, if_neg (by omega)]
    exact h16
section
variable {ws : List Nat} {off s b p : Nat} {l : List (Nat × Nat)} {u : Bool} {m : Nat}
theorem Laid.read (h : Laid ws off s b p l) (hm : mayP s u m) (hp : packN s u m = p) : rdS (txSee ws l) off = s ∧ rdU (txSee ws l) off = u ∧ rdO (txSee ws l) off = m ∧ rdE (txSee ws l) off = 0 := by
  refine rd_laid hm (by rw [h.o, hp]) (by rw [h.hb, h.e, hp]) ?_
  rw [h.z]
  have := h.l1
  have := h.hb
  unfold mayP at hm
  unfold inP
  refine ⟨?_, by omega, by omega, by omega⟩
  omega
theorem Laid.stands (h : Laid ws off s b p l) : stands ws off ∧ stands ws b ∧ stands ws 16 := by
  have := h.l1
  have := h.len
  unfold Go.Proofs.Ytkpopaadkfgjaaa.stands
  omega
theorem Laid.inside (h : Laid ws off s b p l) (y : Nat) (hm : mayP s u m) : inP y off s ↔ off + s ≤ y := by
  have := h.l1
  have := h.hb
  unfold mayP at hm
  unfold inP
  omega
theorem Laid.off_same (h : Laid ws off s b p l) (hm : mayP s u m) (hp : packN s u m = p) : rdS (txSee ws (txStore ws l off p)) off = s ∧ rdU (txSee ws (txStore ws l off p)) off = u ∧ rdO (txSee ws (txStore ws l off p)) off = m ∧ rdE (txSee ws (txStore ws l off p)) off = 0 := by
  have := h.l1
  refine rd_laid hm (by rw [see_stored h.stands.1, if_pos rfl, hp]) (by rw [h.hb, see_store_any _ (by omega), h.e, hp]) ?_
  rw [see_store_any _ (by omega), h.z, h.inside _ hm]
  have := h.hb
  omega
theorem Laid.off_else (h : Laid ws off s b p l) (hm : mayP s u m) (hp : packN s u m = p) {y : Nat} (hy : y ≠ p) :
    rdE (txSee ws (txStore ws l off y)) off = 12 ∨ (rdE (txSee ws (txStore ws l off y)) off = 0 ∧ ¬ (rdS (txSee ws (txStore ws l off y)) off = s ∧ rdU (txSee ws (txStore ws l off y)) off = u ∧ rdO (txSee ws (txStore ws l off y)) off = m)) :=
  rd_else hm (by rw [see_stored h.stands.1, if_pos rfl, hp]; exact hy)
theorem Laid.b_same (h : Laid ws off s b p l) (hm : mayP s u m) (hp : packN s u m = p) : rdS (txSee ws (txStore ws l b p)) off = s ∧ rdU (txSee ws (txStore ws l b p)) off = u ∧ rdO (txSee ws (txStore ws l b p)) off = m ∧ rdE (txSee ws (txStore ws l b p)) off = 0 := by
  have := h.l1
  refine rd_laid hm (by rw [see_store_any _ (by omega), h.o, hp]) (by rw [h.hb, see_stored h.stands.2.1, if_pos rfl, hp]) ?_
  rw [see_store_any _ (by omega), h.z, h.inside _ hm]
  have := h.hb
  omega
theorem Laid.b_else (h : Laid ws off s b p l) (hm : mayP s u m) (hp : packN s u m = p) {y : Nat} (hy : y ≠ p) : rdE (txSee ws (txStore ws l b y)) off = 12 := by
  have := h.l1
  exact rd_last hm (by rw [see_store_any _ (by omega), h.o, hp]) (by rw [h.hb, see_stored h.stands.2.1, if_pos rfl, hp]; exact hy)
theorem Laid.size_same (h : Laid ws off s b p l) (hm : mayP s u m) (hp : packN s u m = p) {y : Nat} (hy : off + s ≤ y) : rdS (txSee ws (txStore ws l 16 y)) off = s ∧ rdU (txSee ws (txStore ws l 16 y)) off = u ∧ rdO (txSee ws (txStore ws l 16 y)) off = m ∧ rdE (txSee ws (txStore ws l 16 y)) off = 0 := by
  have := h.l1
  refine rd_laid hm (by rw [see_store_any _ (by omega), h.o, hp]) (by rw [h.hb, see_store_any _ (by omega), h.e, hp]) ?_
  rw [see_stored h.stands.2.2, if_pos rfl, h.inside _ hm]
  exact hy
theorem Laid.size_else (h : Laid ws off s b p l) (hm : mayP s u m) (hp : packN s u m = p) {y : Nat} (hy : y < off + s) : rdE (txSee ws (txStore ws l 16 y)) off = 12 := by
  have := h.l1
  refine rd_size hm (by rw [see_store_any _ (by omega), h.o, hp]) ?_
  rw [see_stored h.stands.2.2, if_pos rfl, h.inside _ hm]
  omega
theorem Laid.other (h : Laid ws off s b p l) (hm : mayP s u m) (hp : packN s u m = p) {x y : Nat} (h1 : x ≠ off) (h2 : x ≠ b) (h3 : x ≠ 16) : rdS (txSee ws (txStore ws l x y)) off = s ∧ rdU (txSee ws (txStore ws l x y)) off = u ∧ rdO (txSee ws (txStore ws l x y)) off = m ∧ rdE (txSee ws (txStore ws l x y)) off = 0 := by
  have := h.l1
  refine rd_laid hm (by rw [see_store_any _ (fun e => h1 e.symm), h.o, hp]) (by rw [h.hb, see_store_any _ (fun e => h2 e.symm), h.e, hp]) ?_
  rw [see_store_any _ (fun e => h3 e.symm), h.z, h.inside _ hm]
  have := h.hb
  omega
end
end Go.Proofs.Ytkpopaadkfgjaaa
