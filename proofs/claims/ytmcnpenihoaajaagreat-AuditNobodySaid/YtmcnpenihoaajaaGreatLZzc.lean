/-
  Texts of one layer, one behind the other: memory, contracts of the functions, and what follows of them.
  Conditions: as each theorem says.
-/
import Derived.Test.YtmcnpenihoaajaaGreatLZzb
import Derived.Sort.Walk0
import Derived.Test.YtmcnpenihoaajaaGreatLZza
import Derived.Deep.MidRow
import Derived.Deep.RegionLaw
import Derived.Test.YtmcnpenihoaajaaGreatLTxa
import Derived.Shelf.SlIter.Nil
import Derived.Shelf.SortM.Plain
import Derived.Shelf.SortM.SortNone
import Derived.Maps.Own
import Derived.Carry
import Derived.Deep.RegionHeld3
set_option linter.unusedVariables false
set_option linter.unusedSimpArgs false
namespace Go.Proofs.YtmcnpenihoaajaaGreat
open Go.RowKit
set_option maxRecDepth 100000
def ltE (a b : ByteArray) : Bool := Op.bytesLess a.toList b.toList
theorem ltE_is (a b : ByteArray) : ltE a b = true ↔ a.toList < b.toList := by unfold ltE; rw [Go.Proofs.bytesLess_eq]; simp
def atE (s : ByteArray) : List (ByteArray × Nat) → Nat
  | [] => 0
  | q :: r => if ltE s q.1 = true then 0 else atE s r + 1
def insE (e : ByteArray × Nat) (out : List (ByteArray × Nat)) : List (ByteArray × Nat) := out.take (atE e.1 out) ++ e :: out.drop (atE e.1 out)
def srtE : List (ByteArray × Nat) → List (ByteArray × Nat) → List (ByteArray × Nat)
  | out, [] => out
  | out, e :: r => srtE (insE e out) r
theorem insE_perm (e : ByteArray × Nat) (out : List (ByteArray × Nat)) : (insE e out).Perm (e :: out) := by
  unfold insE
  refine List.perm_middle.trans ?_
  rw [List.take_append_drop]
theorem srtE_perm : ∀ (l out : List (ByteArray × Nat)), (srtE out l).Perm (out ++ l)
  | [], out => by rw [List.append_nil]; exact List.Perm.refl _
  | e :: r, out => by
    refine (srtE_perm r (insE e out)).trans ?_
    refine ((insE_perm e out).append_right r).trans ?_
    exact List.perm_middle.symm
theorem toList_inj {a b : ByteArray} (h : a.toList = b.toList) : a = b := by
  rw [ByteArray.toList_eq, ByteArray.toList_eq] at h
  exact ByteArray.ext (Array.ext' h)
def AscE (l : List (ByteArray × Nat)) : Prop := l.Pairwise fun a b => a.1.toList < b.1.toList
theorem takeE_at {s : ByteArray} : ∀ {l : List (ByteArray × Nat)}, ∀ q ∈ l.take (atE s l), ¬ s.toList < q.1.toList
  | [], q, hq => by simp at hq
  | a :: r, q, hq => by
    unfold atE at hq
    by_cases h : ltE s a.1 = true
    · rw [if_pos h] at hq; cases hq
    · rw [if_neg h, List.take_succ_cons] at hq
      rcases List.mem_cons.1 hq with k | k
      · rw [k]; intro h2; exact h ((ltE_is _ _).2 h2)
      · exact takeE_at q k
theorem drop_atX {s : ByteArray} : ∀ {l : List (ByteArray × Nat)}, AscE l → ∀ q ∈ l.drop (atE s l), s.toList < q.1.toList
  | [], _, q, hq => by simp at hq
  | a :: r, ha, q, hq => by
    unfold atE at hq
    by_cases h : ltE s a.1 = true
    · rw [if_pos h, List.drop_zero] at hq
      have h1 := (ltE_is _ _).1 h
      rcases List.mem_cons.1 hq with k | k
      · rw [k]; exact h1
      · exact List.lt_trans h1 ((List.pairwise_cons.1 ha).1 q k)
    · rw [if_neg h, List.drop_succ_cons] at hq
      exact drop_atX (List.pairwise_cons.1 ha).2 q hq
theorem insE_asc {e : ByteArray × Nat} {out : List (ByteArray × Nat)} (h : AscE out) (hn : ∀ q ∈ out, q.1 ≠ e.1) : AscE (insE e out) := by
  have h0 := h
  unfold AscE at h0
  rw [← List.take_append_drop (atE e.1 out) out] at h0
  obtain ⟨h1, h2, h3⟩ := List.pairwise_append.1 h0
  unfold AscE insE
  refine List.pairwise_append.2 ⟨h1, List.pairwise_cons.2 ⟨fun q hq => drop_atX h q hq, h2⟩, fun a ha b hb => ?_⟩
  have hlt : a.1.toList < e.1.toList := by
    have q1 := takeE_at a ha
    rcases List.le_iff_lt_or_eq.1 (List.not_lt.1 q1) with q | q
    · exact q
    · exact absurd (toList_inj q) (hn a (List.mem_of_mem_take ha))
  rcases List.mem_cons.1 hb with k | k
  · rw [k]; exact hlt
  · exact List.lt_trans hlt (drop_atX h b k)
theorem srtE_asc : ∀ (l out : List (ByteArray × Nat)), AscE out → ((out ++ l).map Prod.fst).Nodup → AscE (srtE out l)
  | [], out, h, _ => h
  | e :: r, out, h, hn => by
    have hp : ((insE e out ++ r).map Prod.fst).Perm ((out ++ e :: r).map Prod.fst) := by
      refine List.Perm.map _ ?_
      exact ((insE_perm e out).append_right r).trans List.perm_middle.symm
    refine srtE_asc r (insE e out) (insE_asc h fun q hq k => ?_) (hp.nodup_iff.2 hn)
    rw [List.map_append, List.map_cons] at hn
    exact (List.nodup_append.1 hn).2.2 _ (List.mem_map_of_mem hq) _ (by simp) k
theorem keys_asc {nm : List (ByteArray × Nat)} {ss : List (List UInt8)} (hn : (nm.map Prod.fst).Nodup) (hs : ss.Perm (nm.map fun q => q.1.toList)) : ss.mergeSort (fun x y => decide (x ≤ y)) = (srtE [] nm).map fun q => q.1.toList := by
  have h1 : (ss.mergeSort (fun x y => decide (x ≤ y))).Perm ((srtE [] nm).map fun q => q.1.toList) := by
    refine (List.mergeSort_perm _ _).trans (hs.trans ?_)
    have h0 := srtE_perm nm []
    rw [List.nil_append] at h0
    exact h0.symm.map fun q => q.1.toList
  have h2 := List.pairwise_mergeSort (le := fun x y : List UInt8 => decide (x ≤ y)) (fun a b c h k => by simp at h k ⊢; exact List.le_trans h k) (fun a b => by simp; exact List.le_total a b) ss
  have h3 := srtE_asc nm [] List.Pairwise.nil (by simpa using hn)
  refine List.Perm.eq_of_pairwise (le := fun a b => a ≤ b) (fun a b _ _ h k => List.le_antisymm h k) (h2.imp fun h => by simpa using h) ?_ h1
  exact List.pairwise_map.2 (h3.imp fun h => List.le_of_lt h)
end Go.Proofs.YtmcnpenihoaajaaGreat
namespace Go.Proofs.YtmcnpenihoaajaaGreat
open Go.RowKit
set_option maxRecDepth 100000
section
variable {w w' w1 w2 : World} {F : Nat → Prop} {P g cap n all E c i M p b : Nat} {f : Nat → KB} {mv : Value} {ns : List (ByteArray × Nat)} {lv : Nat → Bool} {l A C : List KB} {y : KB} {x : OpM}
theorem Md.appended {z : KB} (h : Md w F P all l ns lv) (hst : StB w P g cap l.length all f (.map (some M)) lv) (hk : klist f l.length = l) (hPg : P ≠ g) (hFg : F g) (hFM : F M) (hmp : MapN w M ns) (hz : z.bare) {g' cap' : Nat}
    (hr : RowF w1 g' cap' (l.length + 1) (insF f l.length z)) (hg : w.grownBy w1 (some g)) (hl : g' = g ∨ w.heap.size ≤ g') : MdR w (w1.setCell ⟨P, 1, none⟩ (.slice (some ⟨g', 0, none⟩) (l.length + 1) cap')) F P all (l ++ [z]) ns lv ∧ w1.cell? ⟨P, 1, none⟩ = some (.slice (some ⟨g, 0, none⟩) l.length cap) ∧ w1.frozen? ⟨P, 1, none⟩ = false := by
  have hbx8 := (hg.block _ (lt_of_block hst.box) (fun e => hPg (by injection e))).trans hst.box
  have hle : (l ++ [z]).length = l.length + 1 := by simp
  have hk' : klist (insF f l.length z) (l.length + 1) = l ++ [z] := by
    rw [klist_ins (Nat.le_refl _), hk, List.take_length, List.drop_length]
  have hd : dats (l ++ [z]) = dats l := by rw [dats_app, dats_none hz.1, List.append_nil]
  rw [← hle] at hk' hr
  refine ⟨h.turn hst hFg hFM hmp (g' := g') (cap' := cap') (f' := insF f l.length z) ⟨?_, ?_⟩ hk' ?_ hPg hl (by rw [hd]; exact h.nod) (fun q hq => by rw [hd] at hq; exact hq) (fun y hy => ?_) (fun y hy hu => ?_), ?_, ?_⟩
  · rw [heap_setCell_same hbx8, hle]; rfl
  · exact hr.other hbx8 (by decide) (grown_set _ _ _ _)
  · exact turned_trans (turned_of hg (p := fun i => i = P ∨ i = g) (fun i h => .inr (by injection h with h; exact h.symm))) (turned_of (grown_set _ _ _ _) (p := fun i => i = P ∨ i = g) (fun i h => .inl (by injection h with h; exact h.symm))) (fun i h => .inl h)
  · rcases List.mem_append.1 hy with h1 | h1
    · exact .inr ⟨y, h1, rfl, rfl⟩
    · rw [List.mem_singleton.1 h1]; exact .inl hz
  · rcases List.mem_append.1 hy with h1 | h1
    · exact h.free y h1 hu
    · rw [List.mem_singleton.1 h1]; exact hz
  · simp [World.cell?, hbx8, stC]
  · simp [World.frozen?, hbx8]
end
end Go.Proofs.YtmcnpenihoaajaaGreat
namespace Go.Proofs.YtmcnpenihoaajaaGreat
open Go.RowKit
set_option maxRecDepth 100000
theorem srtE_len (l : List (ByteArray × Nat)) : (srtE [] l).length = l.length := by
  have := (srtE_perm l []).length_eq
  rwa [List.nil_append] at this
theorem EntsAt.nil {w : World} (la : Option Addr) : EntsAt w la [] := ⟨fun h => by cases h⟩
theorem EntsAt.take {w : World} {la : Option Addr} {l : List (ByteArray × Nat)} (h : EntsAt w la l) (A : Nat) : EntsAt w la (l.take A) := ⟨fun hn => by
  have hl : (l.take A).length ≤ l.length := by rw [List.length_take]; omega
  obtain ⟨b, off, h1, h2, h3⟩ := h.cells (by omega)
  refine ⟨b, off, h1, h2, fun k hk => ?_⟩
  have e : (l.take A).getD k (ByteArray.empty, 0) = l.getD k (ByteArray.empty, 0) := by
    rw [List.length_take] at hk
    rw [List.getD_eq_getElem?_getD, List.getD_eq_getElem?_getD, List.getElem?_take_of_lt (by omega)]
  have := h3 k (by omega)
  unfold entS entO at *
  rw [e]; exact this⟩
theorem EntsAt.drop {w : World} {g : Nat} {l : List (ByteArray × Nat)} (h : EntsAt w (some ⟨g, 0, none⟩) l) (A : Nat) : EntsAt w (some ⟨g, A * 2, none⟩) (l.drop A) := ⟨fun hn => by
  rw [List.length_drop] at hn
  obtain ⟨b, off, h1, h2, h3⟩ := h.cells (by omega)
  injection h1 with h1
  injection h1 with e1 e2
  subst e1 e2
  refine ⟨g, A * 2, rfl, h2, fun k hk => ?_⟩
  rw [List.length_drop] at hk
  have e : (l.drop A).getD k (ByteArray.empty, 0) = l.getD (A + k) (ByteArray.empty, 0) := by
    rw [List.getD_eq_getElem?_getD, List.getD_eq_getElem?_getD, List.getElem?_drop]
  have := h3 (A + k) (by omega)
  unfold entS entO at *
  rw [e, show A * 2 + k * 2 = 0 + (A + k) * 2 by omega]; exact this⟩
section
variable {w w' W : World} {F : Nat → Prop} {base all K c i : Nat} {v : Value} {S : MS}
end
end Go.Proofs.YtmcnpenihoaajaaGreat
namespace Go.Proofs.YtmcnpenihoaajaaGreat
open Go.RowKit Go.Maps Go.Sort Go.Shelf
set_option maxRecDepth 100000
def keysL_ren : Go.Shelf.Ren := ⟨fun | 7 => 76 | 10 => 117 | n => n, fun | 23 => 91 | 26 => 9 | 3 => 22 | 28 => 144 | 0 => 0 | 27 => 143 | 33 => 195 | 4 => 4 | n => n, fun n => n⟩
theorem keysL : Go.Proofs.SlLaysZ.n7 Tryz.prog keysL_ren where
  mixed := by kernel_rfl
  f7 := ⟨(Tryz.f76).name, by kernel_rfl, Tryz.func76.trans (congrArg some (by kernel_rfl))⟩
  f10 := ⟨(Tryz.f117).name, by kernel_rfl, Tryz.func117.trans (congrArg some (by kernel_rfl))⟩
  t0 := Tryz.underlying0
  a0 := Tryz.isAgg0
  z0 := Tryz.sizeOf0
  v0 := Tryz.zeroValue0
  t4 := Tryz.underlying4
  a4 := Tryz.isAgg4
  z4 := Tryz.sizeOf4
  v4 := Tryz.zeroValue4
  t23 := Tryz.underlying91
  a23 := Tryz.isAgg91
  z23 := Tryz.sizeOf91
  v23 := Tryz.zeroValue91
  t26 := Tryz.underlying9
  a26 := Tryz.isAgg9
  z26 := Tryz.sizeOf9
  v26 := Tryz.zeroValue9
  t27 := Tryz.underlying143
  a27 := Tryz.isAgg143
  z27 := Tryz.sizeOf143
  v27 := Tryz.zeroValue143
  t28 := Tryz.underlying144
  a28 := Tryz.isAgg144
  z28 := Tryz.sizeOf144
  v28 := Tryz.zeroValue144
  t33 := Tryz.underlying195
  a33 := Tryz.isAgg195
  z33 := Tryz.sizeOf195
  v33 := Tryz.zeroValue195
def sortedL_ren : Go.Shelf.Ren := ⟨fun | 6 => 75 | 8 => 115 | 9 => 116 | 11 => 158 | 13 => 112 | 12 => 159 | 23 => 155 | 24 => 156 | 14 => 181 | 15 => 182 | 16 => 183 | 17 => 184 | 18 => 185 | 19 => 186 | 20 => 187 | 21 => 188 | 22 => 189 | 25 => 218 | 26 => 177 | 27 => 178 | 28 => 219 | 29 => 220 | 30 => 221 | 31 => 231 | n => n, fun | 26 => 9 | 28 => 144 | 24 => 141 | 0 => 0 | 3 => 3 | 37 => 61 | 48 => 232 | 50 => 22 | 4 => 4 | 40 => 225 | 39 => 224 | 45 => 229 | 5 => 5 | 9 => 9 | 51 => 252 | 55 => 255 | 57 => 277 | 58 => 278 | 33 => 195 | n => n, fun n => n⟩
theorem sortedL : Go.Proofs.SlLaysZ.n6 Tryz.prog sortedL_ren where
  mixed := by kernel_rfl
  f6 := ⟨(Tryz.f75).name, by kernel_rfl, Tryz.func75.trans (congrArg some (by kernel_rfl))⟩
  f8 := ⟨(Tryz.f115).name, by kernel_rfl, Tryz.func115.trans (congrArg some (by kernel_rfl))⟩
  f11 := ⟨(Tryz.f158).name, by kernel_rfl, Tryz.func158.trans (congrArg some (by kernel_rfl))⟩
  t0 := Tryz.underlying0
  a0 := Tryz.isAgg0
  z0 := Tryz.sizeOf0
  v0 := Tryz.zeroValue0
  t24 := Tryz.underlying141
  a24 := Tryz.isAgg141
  z24 := Tryz.sizeOf141
  v24 := Tryz.zeroValue141
  t26 := Tryz.underlying9
  a26 := Tryz.isAgg9
  z26 := Tryz.sizeOf9
  v26 := Tryz.zeroValue9
  t28 := Tryz.underlying144
  a28 := Tryz.isAgg144
  z28 := Tryz.sizeOf144
  v28 := Tryz.zeroValue144
  i26 := by kernel_rfl
def sortL_ren : Go.Shelf.Ren := ⟨fun | 6 => 116 | 8 => 112 | 9 => 159 | 19 => 155 | 20 => 156 | 21 => 181 | 22 => 182 | 23 => 183 | 24 => 184 | 25 => 185 | 26 => 186 | 27 => 187 | 28 => 188 | 29 => 189 | 36 => 218 | 31 => 177 | 32 => 178 | 37 => 219 | 38 => 220 | 39 => 221 | 41 => 231 | n => n, fun | 27 => 141 | 29 => 9 | 3 => 3 | 32 => 61 | 26 => 141 | 0 => 0 | 44 => 232 | 46 => 22 | 4 => 4 | 36 => 225 | 35 => 224 | 41 => 229 | 5 => 5 | 9 => 9 | 53 => 252 | 57 => 255 | 63 => 277 | 64 => 278 | n => n, fun n => n⟩
theorem sortL : Go.Proofs.SlLaysM.n6 Tryz.prog sortL_ren where
  mixed := by kernel_rfl
  f6 := ⟨(Tryz.f116).name, by kernel_rfl, Tryz.func116.trans (congrArg some (by kernel_rfl))⟩
  f8 := Tryz.func112.trans (congrArg some (by kernel_rfl))
  f9 := ⟨(Tryz.f159).name, by kernel_rfl, Tryz.func159.trans (congrArg some (by kernel_rfl))⟩
  f19 := Tryz.func155.trans (congrArg some (by kernel_rfl))
  f20 := Tryz.func156.trans (congrArg some (by kernel_rfl))
  f21 := ⟨(Tryz.f181).name, by kernel_rfl, Tryz.func181.trans (congrArg some (by kernel_rfl))⟩
  f22 := ⟨(Tryz.f182).name, by kernel_rfl, Tryz.func182.trans (congrArg some (by kernel_rfl))⟩
  f23 := ⟨(Tryz.f183).name, by kernel_rfl, Tryz.func183.trans (congrArg some (by kernel_rfl))⟩
  f24 := ⟨(Tryz.f184).name, by kernel_rfl, Tryz.func184.trans (congrArg some (by kernel_rfl))⟩
  f25 := ⟨(Tryz.f185).name, by kernel_rfl, Tryz.func185.trans (congrArg some (by kernel_rfl))⟩
  f26 := ⟨(Tryz.f186).name, by kernel_rfl, Tryz.func186.trans (congrArg some (by kernel_rfl))⟩
  f27 := ⟨(Tryz.f187).name, by kernel_rfl, Tryz.func187.trans (congrArg some (by kernel_rfl))⟩
  f28 := ⟨(Tryz.f188).name, by kernel_rfl, Tryz.func188.trans (congrArg some (by kernel_rfl))⟩
  f29 := ⟨(Tryz.f189).name, by kernel_rfl, Tryz.func189.trans (congrArg some (by kernel_rfl))⟩
  f31 := Tryz.func177.trans (congrArg some (by kernel_rfl))
  f32 := Tryz.func178.trans (congrArg some (by kernel_rfl))
  f36 := ⟨(Tryz.f218).name, by kernel_rfl, Tryz.func218.trans (congrArg some (by kernel_rfl))⟩
  f37 := ⟨(Tryz.f219).name, by kernel_rfl, Tryz.func219.trans (congrArg some (by kernel_rfl))⟩
  f38 := ⟨(Tryz.f220).name, by kernel_rfl, Tryz.func220.trans (congrArg some (by kernel_rfl))⟩
  f39 := ⟨(Tryz.f221).name, by kernel_rfl, Tryz.func221.trans (congrArg some (by kernel_rfl))⟩
  f41 := ⟨(Tryz.f231).name, by kernel_rfl, Tryz.func231.trans (congrArg some (by kernel_rfl))⟩
  t0 := Tryz.underlying0
  a0 := Tryz.isAgg0
  z0 := Tryz.sizeOf0
  v0 := Tryz.zeroValue0
  t3 := Tryz.underlying3
  a3 := Tryz.isAgg3
  z3 := Tryz.sizeOf3
  v3 := Tryz.zeroValue3
  t4 := Tryz.underlying4
  a4 := Tryz.isAgg4
  z4 := Tryz.sizeOf4
  v4 := Tryz.zeroValue4
  t5 := Tryz.underlying5
  a5 := Tryz.isAgg5
  z5 := Tryz.sizeOf5
  v5 := Tryz.zeroValue5
  t9 := Tryz.underlying9
  a9 := Tryz.isAgg9
  z9 := Tryz.sizeOf9
  v9 := Tryz.zeroValue9
  t26 := Tryz.underlying141
  a26 := Tryz.isAgg141
  z26 := Tryz.sizeOf141
  v26 := Tryz.zeroValue141
  t27 := Tryz.underlying141
  a27 := Tryz.isAgg141
  z27 := Tryz.sizeOf141
  v27 := Tryz.zeroValue141
  t29 := Tryz.underlying9
  a29 := Tryz.isAgg9
  z29 := Tryz.sizeOf9
  v29 := Tryz.zeroValue9
  t32 := Tryz.underlying61
  a32 := Tryz.isAgg61
  z32 := Tryz.sizeOf61
  v32 := Tryz.zeroValue61
  t35 := Tryz.underlying224
  a35 := Tryz.isAgg224
  z35 := Tryz.sizeOf224
  v35 := Tryz.zeroValue224
  t36 := Tryz.underlying225
  a36 := Tryz.isAgg225
  z36 := Tryz.sizeOf225
  v36 := Tryz.zeroValue225
  t41 := Tryz.underlying229
  a41 := Tryz.isAgg229
  z41 := Tryz.sizeOf229
  v41 := Tryz.zeroValue229
  t44 := Tryz.underlying232
  a44 := Tryz.isAgg232
  z44 := Tryz.sizeOf232
  v44 := Tryz.zeroValue232
  t46 := Tryz.underlying22
  a46 := Tryz.isAgg22
  z46 := Tryz.sizeOf22
  v46 := Tryz.zeroValue22
  t53 := Tryz.underlying252
  a53 := Tryz.isAgg252
  z53 := Tryz.sizeOf252
  v53 := Tryz.zeroValue252
  t57 := Tryz.underlying255
  a57 := Tryz.isAgg255
  z57 := Tryz.sizeOf255
  v57 := Tryz.zeroValue255
  t63 := Tryz.underlying277
  a63 := Tryz.isAgg277
  z63 := Tryz.sizeOf277
  v63 := Tryz.zeroValue277
  t64 := Tryz.underlying278
  a64 := Tryz.isAgg278
  z64 := Tryz.sizeOf278
  v64 := Tryz.zeroValue278
theorem sortsL (m : Nat) : AnyZ.SortsIn Tryz.prog sortedL_ren Fence.wide m :=
  ⟨fun blk off cap ss W hH hblk hsz => callsIn_wide.2 (AnyM.slices_Sort_string sortL blk off cap ss W hH hblk hsz),
   fun p cap W => callsIn_wide.2 (AnyM.slices_Sort_string_none sortL p cap W)⟩
theorem keys14 (mb : Option Nat) (W : World) : Calls Tryz.prog 76 #[.map mb] W fun e w' => e = .returned (.func (.func 117) #[] #[.pointer (some ⟨W.heap.size, 0, none⟩)]) ∧ w' = W.alloc (.cells #[.map mb] 91) := by
  have cK : CallsIn Fence.wide 5 Tryz.prog 76 #[.map mb] W fun e w' => e = .returned (.func (.func 117) #[] #[.pointer (some ⟨W.heap.size, 0, none⟩)]) ∧ w' = W.alloc (.cells #[.map mb] 91) := AnyZ.keys_in keysL Fence.wide 5 trivial rfl mb W
  exact callsIn_wide.1 cK
set_option maxHeartbeats 1000000 in
theorem sorted14 {b nn : Nat} {D0 : DataW Unit} {w : World} (hown : w.ownsMap Tryz.prog 9 (plainElem Tryz.prog 22) b nn D0) (hmax : Maps.size D0 ≤ maxLen) (hbytes : Maps.size D0 * 16 ≤ 140737488355328) :
    Calls Tryz.prog 75 #[.func (.func 117) #[] #[.pointer (some ⟨w.heap.size, 0, none⟩)]] (w.alloc (.cells #[.map (some b)] 91)) fun e w' => ∃ (v : Value) (ss : List (List UInt8)), e = .returned v ∧ ss.Perm (strKeys D0) ∧
      w'.ownsRow (w.alloc (.cells #[.map (some b)] 91)).heap.size 9 1 v ss.length ((ss.mergeSort (fun x y => decide (x ≤ y))).map encStr) ∧ (v = .slice none 0 0 ↔ ss = []) ∧ Below (w.alloc (.cells #[.map (some b)] 91)).heap.size (w.alloc (.cells #[.map (some b)] 91)) w' := by
  have hbl := hown.lt
  have hseq : SeqGives Fence.wide 2 Tryz.prog 117 #[.pointer (some ⟨w.heap.size, 0, none⟩)] encStr (fun ss => ss.Perm (strKeys D0)) (Maps.size D0) (w.alloc (.cells #[.map (some b)] 91)) :=
    AnyZ.keys_gives (ρ := keysL_ren) { keysL with } Fence.wide _ trivial rfl (by omega) w.heap.size b nn D0 _ (by simp) (by simp) (by
      obtain ⟨es, clock, hb, Ft, hs, hD⟩ := hown
      exact ⟨es, clock, (Below.heap_alloc _ _ b hbl).trans hb, Ft, hs, hD⟩)
  have cS := AnyZ.sorted_in sortedL Fence.wide 5 trivial trivial trivial trivial rfl (by omega) (sortsL _) (enters_of Tryz.func116 (by kernel_rfl) rfl) 117 #[.pointer (some ⟨w.heap.size, 0, none⟩)] trivial (enters_of Tryz.func117 (by kernel_rfl) rfl) _ _ hmax hbytes _ hseq
  change CallsIn _ _ Tryz.prog 75 _ _ _ at cS
  exact callsIn_wide.1 cS
theorem names_keys {ns : List (ByteArray × Nat)} {D : DataW Unit} {w : World} {M n : Nat} (hown : w.ownsMap Tryz.prog 9 (plainElem Tryz.prog 22) M n D) (hD : SaysN D ns) (hn : (ns.map Prod.fst).Nodup) : (ns.map fun q => q.1.toList).Perm (strKeys D) := by
  obtain ⟨es, hD1, hpw, _⟩ := hown.entries lawS
  obtain ⟨es', hD', hko⟩ := hown.keysOf
  obtain rfl : es = es' := by rw [hD1] at hD'; simpa using hD'
  subst hD1
  have hsome : ∀ (l : List (ByteArray × Nat)) (s : ByteArray), (nmGet l s).isSome = true ↔ s ∈ l.map Prod.fst := by
    intro l s
    induction l with
    | nil => simp [nmGet]
    | cons q r ih =>
      by_cases hq : q.1 = s
      · rw [show nmGet (q :: r) s = some q.2 from if_pos hq]; simp [hq]
      · rw [show nmGet (q :: r) s = nmGet r s from if_neg hq, ih]; simp only [List.map_cons, List.mem_cons]; exact ⟨fun h => .inr h, fun h => h.resolve_left fun e => hq e.symm⟩
  refine perm_strKeys hpw (fun p hp => by obtain ⟨v, hv⟩ := hko p hp; obtain ⟨x, _, hx, _⟩ := Maps.keyOf_str undS hv; exact ⟨x, hx⟩) ?_ fun x => ?_
  · have h2 : (ns.map fun q => q.1.toList) = (ns.map Prod.fst).map ByteArray.toList := by rw [List.map_map]; rfl
    rw [h2]
    exact List.pairwise_map.2 (hn.imp fun hne e => hne (toList_inj e))
  · have h1 := hD.has ⟨x.toArray⟩
    have h3 := hsome ns ⟨x.toArray⟩
    rw [← h1] at h3
    have hx : (⟨x.toArray⟩ : ByteArray).data.toList = x := by simp
    rw [hx] at h3
    rw [h3]
    have h2 : (ns.map fun q => q.1.toList) = (ns.map Prod.fst).map ByteArray.toList := by rw [List.map_map]; rfl
    rw [h2, List.mem_map]
    constructor
    · rintro ⟨s, hs, e⟩
      have : s = ⟨x.toArray⟩ := by
        apply toList_inj
        rw [e, ByteArray.toList_eq]
      rw [← this]; exact hs
    · intro hs
      exact ⟨_, hs, by rw [ByteArray.toList_eq]⟩
end Go.Proofs.YtmcnpenihoaajaaGreat
namespace Go.Proofs.YtmcnpenihoaajaaGreat
open Go.RowKit
set_option maxRecDepth 100000
def KB.dataed (y : KB) (d : List Nat) : KB := ⟨y.b, y.a, y.m, y.c, d⟩
section
variable {w w' w1 w2 : World} {F F' : Nat → Prop} {P all E c i M p N m yo ys ow yn ym yc i1 i2 : Nat} {yu : Bool} {ya : Option Addr} {yd d' : List Nat} {ns : List (ByteArray × Nat)} {lv : Nat → Bool} {l A C : List KB} {y : KB} {x : OpM}
theorem MdR.mono (h : MdR w w' F P all l ns lv) (hF : ∀ g, F g → F' g) (hlt : ∀ g, F' g → g < w.heap.size) : MdR w w' F' P all l ns lv :=
  ⟨h.1.mono (fun g hg => by rcases hg with h | h; exact .inl (hF g h); exact .inr h) (growF_lt hlt h.2.size), turned_mono h.2 (fun i _ hi => hF i hi)⟩
theorem Md.words (h : Md w F P all (A ++ y :: C) ns lv) (hN : (kv y).ownBlock = some N) (ho : OwnW w' 0 (kv y) d') (hg : w.grownBy w' (some N)) : MdR w w' F P all (A ++ y.dataed d' :: C) ns lv := by
  obtain ⟨g, cap, f, M, hst, hk2, hPg, hFg, hFM, hmp⟩ := h.ex
  have hy := h.own y (by simp)
  obtain ⟨cur, hc⟩ := ownW_cells hy hN
  have hMN : some M ≠ some N := fun e => by injection e with e; exact hmp.ne hc e
  have hPN : P ≠ N := fun e => ne_typeK hst.box hc (by decide) e
  have hFN : F N := h.dF N (dats_mem.2 ⟨y, by simp, hN⟩)
  obtain ⟨m, hm⟩ : ∃ m, (A ++ y :: C).length = m := ⟨_, rfl⟩
  have hl : (A ++ y.dataed d' :: C).length = m := by rw [← hm]; simp
  rw [hm] at hst hk2
  have hk3 : klist (updK f A.length (y.dataed d')) m = A ++ y.dataed d' :: C := (klist_put hk2 rfl (y.dataed d')).2.2
  have hfA := (klist_put hk2 rfl (y.dataed d')).1
  have hdd : dats (A ++ y.dataed d' :: C) = dats (A ++ y :: C) := dats_keep rfl
  have hst2 : StB w' P g cap m all (updK f A.length (y.dataed d')) (.map (some M)) lv := by
    refine ⟨(hg.block _ (lt_of_block hst.box) (fun e => hPN (by injection e))).trans hst.box, ?_⟩
    have hr := hst.row.other hc (by decide) hg
    obtain ⟨cur2, q1, q2, q3⟩ := hr.ex
    refine ⟨⟨cur2, q1, q2, fun j hj i' hi' => ?_⟩, hr.le, hr.cap⟩
    by_cases e : j = A.length
    · subst e; rw [updK_same, q3 _ hj _ hi', hfA]; rfl
    · rw [updK_ne e]; exact q3 j hj i' hi'
  rw [← hl] at hst2 hk3
  refine ⟨⟨⟨g, cap, _, M, hst2, hk3, hPg, .inl hFg, .inl hFM, hmp.kept hg hMN⟩, fun z hz => ?_, by rw [hdd]; exact h.nod, fun q hq => by rw [hdd] at hq; exact .inl (h.dF q hq), fun z hz hzu => ?_, .inl h.pF, growF_lt h.lt hg.size⟩, turned_of hg (fun q e => by injection e with e; rw [← e]; exact hFN)⟩
  · have hap := dats_apart h.nod hN
    rcases List.mem_append.1 hz with h1 | h1
    · refine World.ownsRow.kept (h.own z (by simp [h1])) hg ?_
      by_cases e1 : (kv z).ownBlock = none
      · exact .inl e1
      · exact .inr (hap z (.inl h1))
    · rcases List.mem_cons.1 h1 with rfl | h2
      · exact ho
      · refine World.ownsRow.kept (h.own z (by simp [h2])) hg ?_
        by_cases e1 : (kv z).ownBlock = none
        · exact .inl e1
        · exact .inr (hap z (.inr h2))
  · rcases List.mem_append.1 hz with h1 | h1
    · exact h.free z (by simp [h1]) hzu
    · rcases List.mem_cons.1 h1 with rfl | h2
      · have := h.free y (by simp) hzu
        obtain ⟨b1, _, _, _⟩ := this
        unfold kv at hN
        rw [b1] at hN
        cases hN
      · exact h.free z (by simp [h2]) hzu
end
end Go.Proofs.YtmcnpenihoaajaaGreat
namespace Go.Proofs.YtmcnpenihoaajaaGreat
open Go.RowKit
set_option maxRecDepth 100000
section
variable {w w' w1 w2 : World} {F : Nat → Prop} {P all k : Nat} {ns : List (ByteArray × Nat)} {lv : Nat → Bool} {l : List KB}
theorem index_live (lv : Nat → Bool) (hk : k < 8) (W : World) : (Instr.index 92 (.agg #[.bool (lv 0), .bool (lv 1), .bool (lv 2), .bool (lv 3), .bool (lv 4), .bool (lv 5), .bool (lv 6), .bool (lv 7)]) (.int .i64 (k : Int))).run Tryz.prog W = .ok (.bool (lv k)) W := by
  rcases (show k = 0 ∨ k = 1 ∨ k = 2 ∨ k = 3 ∨ k = 4 ∨ k = 5 ∨ k = 6 ∨ k = 7 by omega) with rfl | rfl | rfl | rfl | rfl | rfl | rfl | rfl <;> kernel_rfl
set_option maxHeartbeats 2000000 in
theorem mlive_any (h : Md w F P all l ns lv) :
    Calls Tryz.prog 40 #[.pointer (some ⟨P, 0, none⟩)] w fun e w' => ∃ v', e = .returned v' ∧ OwnI w' w.heap.size v' (liveL lv) ∧ w.grownBy w' none := by
  have c0 := h.live (k := 0) (by decide)
  have c1 := h.live (k := 1) (by decide)
  have c2 := h.live (k := 2) (by decide)
  have c3 := h.live (k := 3) (by decide)
  have c4 := h.live (k := 4) (by decide)
  have c5 := h.live (k := 5) (by decide)
  have c6 := h.live (k := 6) (by decide)
  have c7 := h.live (k := 7) (by decide)
  simp only [Nat.reduceAdd] at c0 c1 c2 c3 c4 c5 c6 c7
  have hixx := fun (k : Nat) (hk : k < 8) (W : World) => index_live lv hk W
  have HIX := Lib.hid hixx
  clear hixx h
  go_enter Tryz.func40, Tryz.ntmps40
  go_wp2
  go_loopw [3, 12] (fun v i wr => ∃ k : Nat, k ≤ 8 ∧ i = .int .i64 k ∧ OwnI wr w.heap.size v ((List.range k).filter fun x => lv x) ∧ w.grownBy wr none) (fun _ i _ => 8 - (intOf i).toNat)
  case atStart => exact ⟨0, Nat.zero_le _, rfl, World.ownsRow_nil _ _ _ _, grown_refl _ _⟩
  case round =>
    obtain ⟨k, hk, rfl, hown, hgr⟩ := hrel
    by_cases h1 : k < 8
    · have h1' : (k : Int) < 8 := by omega
      have hix := fun W => HIX.out k h1 W
      obtain ⟨x, hx⟩ : ∃ x, lv k = x := ⟨_, rfl⟩
      rw [hx] at hix
      have hfl : ((List.range k).filter fun x => lv x).length ≤ 8 := Nat.le_trans (List.length_filter_le _ _) (by simp; omega)
      have hsz1 := hgr.size
      cases x with
      | true =>
        have hfil : (List.range (k + 1)).filter (fun y => lv y) = (List.range k).filter (fun y => lv y) ++ [k] := by rw [List.range_succ, List.filter_append]; simp [hx]
        have HF := Lib.hid hfil
        clear hfil hx
        go_wp2_with (at_builtin; go_must (refine wpList_append_int rfl _ _ rfl w.heap.size _ _ rfl hown k rfl (by omega) hsz1 ?_); intro v' w3 hown3 hg3)
        go_roundw
        case rel => exact ⟨k + 1, by omega, by go_num, by rw [HF.out]; exact hown3, grown_step hgr hg3 (fun i hi => .inl (own_int hown hi).1)⟩
        case measure => simp [intOf]; omega
      | false =>
        have hfil : (List.range (k + 1)).filter (fun y => lv y) = (List.range k).filter (fun y => lv y) := by rw [List.range_succ, List.filter_append]; simp [hx]
        have HF := Lib.hid hfil
        clear hfil hx
        go_wp2
        go_roundw
        case rel => exact ⟨k + 1, by omega, by go_num, by rw [HF.out]; exact hown, hgr⟩
        case measure => simp [intOf]; omega
    · obtain rfl : k = 8 := by omega
      go_wp2
      go_ret
      exact ⟨_, rfl, hown, hgr⟩
end
end Go.Proofs.YtmcnpenihoaajaaGreat
namespace Go.Proofs.YtmcnpenihoaajaaGreat
open Go.RowKit
set_option maxRecDepth 100000
section
variable {w w' w1 w2 : World} {F : Nat → Prop} {P all k size g : Nat} {ns : List (ByteArray × Nat)} {lv : Nat → Bool} {l : List KB}
def SizesOk (size all : Nat) : Prop := size % 16 = 0 ∧ 3824 ≤ size ∧ size ≤ all ∧ all ≤ 1048576 ∧ all % 8 = 0
theorem saysN_nil : SaysN (.map [] : DataW Unit) [] := ⟨rfl, fun s => rfl, fun s => rfl⟩
theorem rowF_one {z : KB} (h : w.heap[g]? = some (.cells #[.int .u64 (z.b.off : Nat), .int .u64 (z.b.s : Nat), .bool z.b.u, .int .i64 z.b.o, .int .u64 (z.b.n : Nat), .slice z.a z.m z.c] 90 (0, 0))) : RowF w g 1 1 (fun _ => z) := by
  refine ⟨⟨_, h, rfl, fun j hj i hi => ?_⟩, Nat.le_refl _, by unfold maxLen; omega⟩
  obtain rfl : j = 0 := by omega
  rw [Nat.zero_mul, Nat.zero_add, ← Array.getElem?_toList]
  rfl
theorem md_new {z : KB} (hz : z.bare) {W1 W2 W3 : World} (e1 : w.alloc (.cells #[.int .u64 (z.b.off : Nat), .int .u64 (z.b.s : Nat), .bool z.b.u, .int .i64 z.b.o, .int .u64 (z.b.n : Nat), .slice z.a z.m z.c] 90) = W1) (e2 : W1.alloc (.map #[] 0) = W2)
    (e3 : W2.alloc (.cells (stC all (.slice (some ⟨w.heap.size, 0, none⟩) 1 1) (.map (some (w.heap.size + 1))) (fun _ => false)) 94) = W3) : Md W3 (fun g => w.heap.size ≤ g ∧ g < W3.heap.size) (w.heap.size + 2) all [z] [] (fun _ => false) ∧ w.grownBy W3 none := by
  have s1 : W1.heap.size = w.heap.size + 1 := by rw [← e1]; simp
  have s2 : W2.heap.size = w.heap.size + 2 := by rw [← e2, World.size_alloc, s1]
  have s3 : W3.heap.size = w.heap.size + 3 := by rw [← e3, World.size_alloc, s2]
  have g1 : w.grownBy W1 none := by rw [← e1]; exact World.grownBy_alloc _ _ _
  have g2 : W1.grownBy W2 none := by rw [← e2]; exact World.grownBy_alloc _ _ _
  have g3 : W2.grownBy W3 none := by rw [← e3]; exact World.grownBy_alloc _ _ _
  have b1 := heap_alloc_new' w (.cells #[.int .u64 (z.b.off : Nat), .int .u64 (z.b.s : Nat), .bool z.b.u, .int .i64 z.b.o, .int .u64 (z.b.n : Nat), .slice z.a z.m z.c] 90)
  rw [e1] at b1
  have b3 := heap_alloc_new' W2 (.cells (stC all (.slice (some ⟨w.heap.size, 0, none⟩) 1 1) (.map (some (w.heap.size + 1))) (fun _ => false)) 94)
  rw [e3, s2] at b3
  have hr := ((rowF_one b1).later g2).later g3
  have hm : W2.ownsMap Tryz.prog 9 (plainElem Tryz.prog 22) (w.heap.size + 1) 0 (.map [] : DataW Unit) := by
    rw [← e2, ← s1]; exact World.ownsMap_made W1 _ _ _
  refine ⟨⟨⟨w.heap.size, 1, fun _ => z, w.heap.size + 1, ⟨b3, hr⟩, rfl, by omega, ⟨Nat.le_refl _, by omega⟩, ⟨by omega, by omega⟩, _, hm.kept g3 (by simp), saysN_nil⟩, fun y hy => ?_, ?_, fun q hq => ?_, fun y hy _ => ?_, ⟨by omega, by omega⟩, fun q hq => hq.2⟩, grown_trans g1 (grown_trans g2 g3)⟩
  · rw [List.mem_singleton.1 hy]
    obtain ⟨h1, h2, h3, h4⟩ := hz
    unfold kv
    rw [h1, h2, h3, h4]
    exact World.ownsRow_nil _ _ _ _
  · rw [dats_none hz.1]; exact List.nodup_nil
  · rw [dats_none hz.1] at hq; cases hq
  · rw [List.mem_singleton.1 hy]; exact hz
set_option maxHeartbeats 2000000 in
theorem mnew_ok (h : SizesOk size all) :
    Calls Tryz.prog 14 #[.int .u64 size, .int .u64 all] w fun e w' => e = .returned (.pointer (some ⟨w.heap.size + 2, 0, none⟩)) ∧ Md w' (fun g => w.heap.size ≤ g ∧ g < w'.heap.size) (w.heap.size + 2) all [kbFree 3776 (size - 3776)] [] (fun _ => false) ∧ w.grownBy w' none := by
  obtain ⟨h1, h2, h3, h4, h5⟩ := h
  have t1 : Int.tmod (size : Int) 16 = 0 := by rw [Int.tmod_eq_emod_of_nonneg (by omega)]; omega
  have t2 : Int.tmod (all : Int) 8 = 0 := by rw [Int.tmod_eq_emod_of_nonneg (by omega)]; omega
  have u1 : ¬ ((size : Int) < 3824) := by omega
  have u2 : ¬ ((all : Int) < (size : Int)) := by omega
  have u3 : ¬ ((1048576 : Int) < (all : Int)) := by omega
  have e1 : IntKind.u64.wrap ((size : Int) - 3776) = ((size - 3776 : Nat) : Int) := by rw [IntKind.wrap_u64]; omega
  have HN := Lib.hid (md_new (w := w) (all := all) (kbFree_bare 3776 (size - 3776)) rfl rfl rfl)
  clear h1 h2 h3 h4 h5
  have hmm := @run_makeMap Tryz.prog
  go_enter Tryz.func14, Tryz.ntmps14
  go_wp2
  go_ret
  exact ⟨rfl, HN.out⟩
set_option maxHeartbeats 2000000 in
theorem mnew_not (hs : size < 18446744073709551616) (ha : all < 18446744073709551616) (h : ¬ SizesOk size all) :
    Calls Tryz.prog 14 #[.int .u64 size, .int .u64 all] w fun e w' => e = .returned (.pointer none) ∧ w = w' := by
  have t1 : Int.tmod (size : Int) 16 = ((size % 16 : Nat) : Int) := by rw [Int.tmod_eq_emod_of_nonneg (by omega)]; omega
  have t2 : Int.tmod (all : Int) 8 = ((all % 8 : Nat) : Int) := by rw [Int.tmod_eq_emod_of_nonneg (by omega)]; omega
  unfold SizesOk at h
  by_cases h1 : size % 16 = 0
  · rw [h1] at t1
    by_cases h2 : (size : Int) < 3824
    · go_enter Tryz.func14, Tryz.ntmps14
      go_wp2
      go_ret
      exact ⟨rfl, rfl⟩
    · by_cases h3 : (all : Int) < (size : Int)
      · go_enter Tryz.func14, Tryz.ntmps14
        go_wp2
        go_ret
        exact ⟨rfl, rfl⟩
      · by_cases h4 : (1048576 : Int) < (all : Int)
        · go_enter Tryz.func14, Tryz.ntmps14
          go_wp2
          go_ret
          exact ⟨rfl, rfl⟩
        · have h5 : ¬ (((all % 8 : Nat) : Int) = 0) := fun h5 => h ⟨h1, by omega, by omega, by omega, by omega⟩
          go_enter Tryz.func14, Tryz.ntmps14
          go_wp2
          go_ret
          exact ⟨rfl, rfl⟩
  · have h2 : ¬ (((size % 16 : Nat) : Int) = 0) := by omega
    go_enter Tryz.func14, Tryz.ntmps14
    go_wp2
    go_ret
    exact ⟨rfl, rfl⟩
end
end Go.Proofs.YtmcnpenihoaajaaGreat
namespace Go.Proofs.YtmcnpenihoaajaaGreat
open Go.RowKit
set_option maxRecDepth 100000
section
variable {w w' w1 w2 : World} {F : Nat → Prop} {P all E i M k : Nat} {c : Int} {ns : List (ByteArray × Nat)} {lv : Nat → Bool} {l A C : List KB} {y : KB} {x : OpM}
theorem size_nil (w : World) : Calls Tryz.prog 37 #[.pointer none] w fun e w' => e = .returned (.int .u64 0) ∧ w = w' := by
  go_enter Tryz.func37, Tryz.ntmps37
  go_wp2
  go_ret
  exact ⟨rfl, rfl⟩
theorem live_nil (w : World) : Calls Tryz.prog 40 #[.pointer none] w fun e w' => e = .returned (.slice none 0 0) ∧ w = w' := by
  go_enter Tryz.func40, Tryz.ntmps40
  go_wp2
  go_ret
  exact ⟨rfl, rfl⟩
theorem blocks_nil (w : World) : Calls Tryz.prog 38 #[.pointer none] w fun e w' => e = .returned (.slice none 0 0) ∧ w = w' := by
  go_enter Tryz.func38, Tryz.ntmps38
  go_wp2
  go_ret
  exact ⟨rfl, rfl⟩
theorem entries_nil (w : World) : Calls Tryz.prog 39 #[.pointer none] w fun e w' => e = .returned (.slice none 0 0) ∧ w = w' := by
  go_enter Tryz.func39, Tryz.ntmps39
  go_wp2
  go_ret
  exact ⟨rfl, rfl⟩
end
end Go.Proofs.YtmcnpenihoaajaaGreat
namespace Go.Proofs.YtmcnpenihoaajaaGreat
open Go.RowKit
set_option maxRecDepth 100000
theorem get_at {s : ByteArray} {p : Nat} {C : List (ByteArray × Nat)} : ∀ {A : List (ByteArray × Nat)}, ((A ++ (s, p) :: C).map Prod.fst).Nodup → nmGet (A ++ (s, p) :: C) s = some p
  | [], _ => if_pos rfl
  | q :: r, h => by
    rw [List.cons_append, List.map_cons, List.nodup_cons] at h
    have hq : q.1 ≠ s := fun e => h.1 (by rw [e]; simp)
    exact (if_neg hq).trans (get_at h.2)
section
variable {w w' : World} {F : Nat → Prop} {P all K : Nat} {l : List KB} {S S' : MS} {c : Nat} {x : OpM} {e p v : Nat}
end
end Go.Proofs.YtmcnpenihoaajaaGreat
namespace Go.Proofs.YtmcnpenihoaajaaGreat
open Go.RowKit
set_option maxRecDepth 100000
section
variable {w w' w1 w2 : World} {m c : Nat} {d : List Nat} {la : Option Addr}
theorem own_emptyX (w : World) (base : Nat) (hb : base ≤ w.heap.size) : (w.alloc (.cells #[] 22)).ownsRow base 22 1 (.slice (some ⟨w.heap.size, 0, none⟩) 0 0) 0 [] :=
  ⟨rfl, .inr ⟨w.heap.size, 0, #[], rfl, hb, heap_alloc_new' w _, Nat.le_refl _, Nat.zero_le _, rfl, rfl⟩⟩
set_option maxHeartbeats 1000000 in
theorem clone_words (h : WordsAt w la d) (hl : d.length = m) (hm : m ≤ 1000000) :
    Calls Tryz.prog 74 #[.slice la m c] w fun e w' => ∃ v', e = .returned v' ∧ OwnW w' w.heap.size v' d ∧ w.grownBy w' none := by
  rcases la with _ | ad
  · have hd : d = [] := by
      rcases Nat.eq_zero_or_pos d.length with h0 | h0
      · exact List.length_eq_zero_iff.1 h0
      · obtain ⟨b, off, hb, _⟩ := h.cells h0
        cases hb
    subst hd
    have heq := Lib.run_eql_slice_nil (P := Tryz.prog) w 34 22 none m c 0 0 Tryz.underlying34
    go_enter Tryz.func74, Tryz.ntmps74
    go_wp2
    go_ret
    exact ⟨_, rfl, World.ownsRow_nil _ _ _ _, grown_refl _ _⟩
  · have he := own_emptyX w w.heap.size (Nat.le_refl _)
    have hg0 := World.grownBy_alloc w (.cells #[] 22) none
    have hw := h.later hg0
    obtain ⟨i0, hi, hz0, hz1, hz2⟩ := info_parts info_u64
    have hlen : (cellsU d).length = m * 1 := by simp [cellsU, hl]
    have hcell : ∀ j u, (cellsU d)[j]? = some u → (w.alloc (.cells #[] 22)).cell? (ad.add j) = some u := fun j u hj => by
      have hjm : j < d.length := by
        rcases Nat.lt_or_ge j d.length with h' | h'
        · exact h'
        · rw [List.getElem?_eq_none (by rw [hlen]; omega)] at hj; cases hj
      obtain ⟨b, off, hb, _, hcs⟩ := hw.cells (by omega)
      injection hb with hb
      subst hb
      have hadd : (⟨b, off, none⟩ : Addr).add j = ⟨b, off + j, none⟩ := by unfold Addr.add; split <;> simp_all
      rw [hadd, hcs j hjm, ← hj]
      simp [cellsU, List.getElem?_eq_getElem hjm]
    have hone : ∀ u ∈ cellsU d, u.oneCell' = true := fun u hu => by
      simp only [cellsU, List.mem_map] at hu
      obtain ⟨y, _, rfl⟩ := hu
      rfl
    obtain ⟨v', w', hr, h2, h3, _, h5⟩ := run_append_own_at (P := Tryz.prog) (w.alloc (.cells #[] 22)) w.heap.size 34 34 22 i0 (.int .u64 0) 1 8 Tryz.underlying34 hi hz0 hz1 hz2 rfl (by decide) _ 0 [] he ad m c (cellsU d) hlen hcell hone (by unfold maxLen; omega) (by omega) (by simp)
    have hown : OwnW w' w.heap.size v' d := by
      unfold OwnW
      rw [hl]
      simpa using h2
    have hgg : w.grownBy w' none := grown_new (grown_trans (grown_any hg0 (some w.heap.size)) h3) (Nat.le_refl _)
    have HO := Lib.hid hown
    have HG := Lib.hid hgg
    have heq := Lib.run_eql_slice_nil (P := Tryz.prog) w 34 22 (some ad) m c 0 0 Tryz.underlying34
    clear hown hgg h2 h3 h5 hcell hone hlen hw h he
    go_enter Tryz.func74, Tryz.ntmps74
    go_wp2_with (at_builtin; go_must (refine Lib.wpList_append_run _ rfl _ _ _ _ rfl _ _ rfl rfl _ _ hr ?_))
    go_ret
    exact ⟨_, rfl, HO.out, HG.out⟩
theorem own_emptyK (w : World) : (w.alloc (.cells #[] 90)).ownsRow 0 90 6 (.slice (some ⟨w.heap.size, 0, none⟩) 0 0) 0 [] :=
  ⟨rfl, .inr ⟨w.heap.size, 0, #[], rfl, Nat.zero_le _, heap_alloc_new' w _, Nat.le_refl _, Nat.zero_le _, rfl, rfl⟩⟩
set_option maxHeartbeats 1000000 in
theorem clone_kb {g cap n : Nat} {f : Nat → KB} (h : RowF w g cap n f) (hn : n ≤ 1000) (h0 : 0 < n) :
    Calls Tryz.prog 73 #[.slice (some ⟨g, 0, none⟩) n cap] w fun e w' => ∃ g' cap', e = .returned (.slice (some ⟨g', 0, none⟩) n cap') ∧ RowF w' g' cap' n f ∧ w.heap.size ≤ g' ∧ w.grownBy w' none := by
  have he := own_emptyK w
  have hg0 := World.grownBy_alloc w (.cells #[] 90) none
  have hw := h.later hg0
  obtain ⟨i0, hi, hz0, hz1, hz2⟩ := info_parts info_kb
  have hcell : ∀ j u, (cellsF f n)[j]? = some u → (w.alloc (.cells #[] 90)).cell? ((⟨g, 0, none⟩ : Addr).add j) = some u := fun j u hj => by
    have hadd : (⟨g, 0, none⟩ : Addr).add j = ⟨g, 0 * 6 + j, none⟩ := by unfold Addr.add; split <;> simp_all
    rw [hadd]
    exact hw.src (q := 0) (X := (List.range n).map f) (by simp) (fun j hj => by rw [rangeK_at (by simpa using hj), Nat.zero_add]) j u hj
  have hone : ∀ u ∈ cellsF f n, u.oneCell' = true := fun u hu => by
    unfold cellsF cellsKX at hu
    obtain ⟨y, _, hy⟩ := List.mem_flatMap.1 hu
    exact y.cel_one u hy
  obtain ⟨v', w', hr, h2, h3, _, h5⟩ := run_append_own_at (P := Tryz.prog) (w.alloc (.cells #[] 90)) 0 37 37 90 i0 (.agg #[.int .u64 0, .int .u64 0, .bool false, .int .i64 0, .int .u64 0, .slice none 0 0]) 6 64 Tryz.underlying37 hi hz0 hz1 hz2 rfl (by decide) _ 0 [] he ⟨g, 0, none⟩ n cap (cellsF f n) (by unfold cellsF; rw [cellsK_len]; simp) hcell hone (by unfold maxLen; omega) (by omega) (Nat.zero_le _)
  rw [Nat.zero_add, List.nil_append] at h2
  obtain ⟨g', cap', rfl, hrow⟩ := RowF.of_owns h2 h0
  have hloc : w.heap.size ≤ g' := by
    rcases h5 with h5 | h5
    · have h6 : some g' = some w.heap.size := h5
      injection h6 with h6
      omega
    · have h6 : some g' = some (w.alloc (.cells #[] 90)).heap.size := h5
      rw [World.size_alloc] at h6
      injection h6 with h6
      omega
  have HR := Lib.hid (And.intro hrow (And.intro hloc (grown_new (grown_trans (grown_any hg0 (some w.heap.size)) h3) (Nat.le_refl _) : w.grownBy w' none)))
  have heq := Lib.run_eql_slice_nil (P := Tryz.prog) w 37 90 (some ⟨g, 0, none⟩) n cap 0 0 Tryz.underlying37
  clear hrow hloc h2 h3 h5 hcell hone hw h he
  go_enter Tryz.func73, Tryz.ntmps73
  go_wp2_with (at_builtin; go_must (refine Lib.wpList_append_run _ rfl _ _ _ _ rfl _ _ rfl rfl _ _ hr ?_))
  go_ret
  exact ⟨g', cap', rfl, HR.out⟩
end
end Go.Proofs.YtmcnpenihoaajaaGreat
