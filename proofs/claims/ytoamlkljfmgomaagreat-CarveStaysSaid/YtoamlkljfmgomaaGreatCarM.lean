/-
  What a step leaves of a heap's words outside of one of its blocks; blocks in the place of others.
  No condition: plain mathematics of layers 10 to 12.
-/
import Derived.Test.YtoamlkljfmgomaaGreatCarB
import Derived.Test.YtoamlkljfmgomaaGreatLTree
namespace Go.Proofs.YtoamlkljfmgomaaGreat
open Go.RowKit
set_option linter.unusedVariables false
set_option linter.unusedSimpArgs false

/-! ### blocks that are apart, in no turn -/
structure Lone (ls : List Nat) : Prop where
  on : ∀ x ∈ ls, x % 16 = 0 ∧ 3776 ≤ x ∧ x + 48 ≤ 4800
  nodup : ls.Nodup
  far : ∀ x ∈ ls, ∀ y ∈ ls, x ≠ y → x + 48 ≤ y ∨ y + 48 ≤ x
def upL (ls : List Nat) : List Nat := srtK (fun _ => 0) ls
theorem upL_mem {ls : List Nat} {x : Nat} : x ∈ upL ls ↔ x ∈ ls := srtK_mem
theorem Lone.free {ls : List Nat} (h : Lone ls) : FreeL (upL ls) := by
  refine ⟨fun x hx => h.on x (upL_mem.1 hx), ?_⟩
  have hr : Rising (fun _ => 0) (upL ls) := srtK_rising h.nodup
  refine List.Pairwise.imp_of_mem (fun {a b} ha hb hab => ?_) hr
  have hlt : a < b := by unfold blkLt keyLt at hab; simp only [Nat.lt_irrefl, false_or, true_and] at hab; exact hab
  have := h.far a (upL_mem.1 ha) b (upL_mem.1 hb) (by omega)
  omega
theorem FreeL.lone {ls : List Nat} (h : FreeL ls) : Lone ls := ⟨h.on, h.nodup, fun x hx y hy hn => h.far hx hy hn⟩
theorem Lone.perm {ls ks : List Nat} (h : Lone ls) (hp : ls.Perm ks) : Lone ks :=
  ⟨fun x hx => h.on x (hp.mem_iff.2 hx), hp.nodup_iff.1 h.nodup, fun x hx y hy => h.far x (hp.mem_iff.2 hx) y (hp.mem_iff.2 hy)⟩
theorem Lone.filter {ls : List Nat} (h : Lone ls) (p : Nat → Bool) : Lone (ls.filter p) :=
  ⟨fun x hx => h.on x (List.mem_filter.1 hx).1, h.nodup.filter p, fun x hx y hy => h.far x (List.mem_filter.1 hx).1 y (List.mem_filter.1 hy).1⟩
theorem Lone.snoc {ls : List Nat} {o : Nat} (h : Lone ls) (ho : o % 16 = 0 ∧ 3776 ≤ o ∧ o + 48 ≤ 4800) (hf : ∀ y ∈ ls, y + 48 ≤ o ∨ o + 48 ≤ y) : Lone (ls ++ [o]) := by
  refine ⟨fun x hx => ?_, ?_, fun x hx y hy hn => ?_⟩
  · rcases List.mem_append.1 hx with hx | hx
    · exact h.on x hx
    · rw [List.mem_singleton.1 hx]; exact ho
  · rw [List.nodup_append]
    refine ⟨h.nodup, by simp, fun a ha b hb e => ?_⟩
    rw [List.mem_singleton.1 hb] at e
    have := hf a ha
    omega
  · rcases List.mem_append.1 hx with hx | hx <;> rcases List.mem_append.1 hy with hy | hy
    · exact h.far x hx y hy hn
    · rw [List.mem_singleton.1 hy]; exact hf x hx
    · rw [List.mem_singleton.1 hx]; have := hf y hy; omega
    · rw [List.mem_singleton.1 hx, List.mem_singleton.1 hy] at hn; exact absurd rfl hn
/-- The words tell the tree of these blocks, by the sizes that their first words tell. -/
structure Hung (f : Nat → Nat) (ls : List Nat) : Prop where
  lone : Lone ls
  tree : TreeOf f rkN (f 32) (srtK (fun x => tS (f x)) ls)
section
variable {f g : Nat → Nat} {ls ks : List Nat}
theorem Hung.is {G : List Nat} (h : Hung f ls) (hG : FreeL G) (hs : ∀ x ∈ ls, x ∈ G) : TreeIs f (fun x => tS (f x)) G ls := ⟨hG, hs, h.lone.nodup, h.tree⟩
theorem TreeIs.hung {z : Nat → Nat} {G : List Nat} (h : TreeIs f z G ls) (hz : ∀ x ∈ ls, tS (f x) = z x) : Hung f ls :=
  ⟨⟨fun x hx => h.free.on x (h.sub x hx), h.nodup, fun x hx y hy hn => h.free.far (h.sub x hx) (h.sub y hy) hn⟩, by rw [srtK_congr h.nodup hz]; exact h.tree⟩
theorem Hung.perm (h : Hung f ls) (hp : ls.Perm ks) : Hung f ks := ⟨h.lone.perm hp, by rw [← srtK_of_perm hp h.lone.nodup]; exact h.tree⟩
theorem Hung.congr (h : Hung f ls) (h32 : g 32 = f 32) (hg : ∀ x ∈ ls, g x = f x ∧ g (x + 8) = f (x + 8) ∧ g (x + 16) = f (x + 16)) : Hung g ls := by
  refine ⟨h.lone, ?_⟩
  rw [srtK_congr (y := fun x => tS (g x)) (z := fun x => tS (f x)) h.lone.nodup (fun x hx => by rw [(hg x hx).1]), h32]
  exact h.tree.frame fun x hx => (hg x (srtK_mem.1 hx)).2
end
/-! ### what a step leaves -/
/-- Outside of [lo, hi) all words stay, but the root, and what the blocks F have of the tree. -/
def Stay (f g : Nat → Nat) (lo hi : Nat) (F : List Nat) : Prop := ∀ x, (x < lo ∨ hi ≤ x) → x ≠ 32 → (∀ y ∈ F, x ≠ y + 8 ∧ x ≠ y + 16) → g x = f x
section
variable {f g g' : Nat → Nat} {lo hi lo' hi' : Nat} {F G : List Nat}
theorem Stay.refl : Stay f f lo hi F := fun _ _ _ _ => rfl
theorem Stay.trans (h : Stay f g lo hi F) (k : Stay g g' lo hi F) : Stay f g' lo hi F := fun x a b c => (k x a b c).trans (h x a b c)
theorem Stay.grow (h : Stay f g lo hi F) (h1 : lo' ≤ lo) (h2 : hi ≤ hi') : Stay f g lo' hi' F := fun x a b c => h x (by omega) b c
theorem Stay.more (h : Stay f g lo hi F) (hs : ∀ y ∈ F, y ∈ G) : Stay f g lo hi G := fun x a b c => h x a b fun y hy => c y (hs y hy)
/-- .. blocks of F that lie within are none -/
theorem Stay.less (h : Stay f g lo hi F) (hs : ∀ y ∈ F, y ∈ G ∨ (lo ≤ y + 8 ∧ y + 16 < hi)) : Stay f g lo hi G := fun x a b c => h x a b fun y hy => by
  rcases hs y hy with h1 | h1
  · exact c y h1
  · omega
theorem Stay.of_kept (h : Kept F f g) : Stay f g lo hi F := fun x a b c => h x b c
theorem Stay.put {off v : Nat} (h1 : lo ≤ off) (h2 : off < hi) (hg : ∀ x, g x = if x = off then v else f x) : Stay f g lo hi F := fun x a b c => by rw [hg, if_neg (by omega)]
theorem Stay.headOk (h : Stay f g lo hi F) (hlo : 48 ≤ lo) (hF : ∀ y ∈ F, 48 ≤ y) (hh : HeadOk f) : HeadOk g := hh.congr fun q hq hn => h q (by omega) hn fun y hy => by have := hF y hy; omega
theorem Stay.top (h : Stay f g lo hi F) (hlo : 48 ≤ lo) (hF : ∀ y ∈ F, 48 ≤ y) : g 16 = f 16 := h 16 (by omega) (by decide) fun y hy => by have := hF y hy; omega
/-- blocks outside of it stay -/
theorem Told.stay {E o e : Nat} {A : List Blk} (h : Told f E o A e) (h3 : 3776 ≤ o) (hs : Stay f g lo hi F) (hr : ∀ x ∈ A, x.off + x.s ≤ lo ∨ hi ≤ x.off)
    (hF : ∀ x ∈ A, ∀ y ∈ F, (y = x.off ∧ x.u = false) ∨ y + 48 ≤ x.off ∨ x.off + x.s ≤ y) : Told g E o A e := by
  refine h.congr fun x hx => ?_
  have h1 := (h.within x hx).1
  have h2 := (h.is x hx).size
  have h4 := hr x hx
  have h5 := hF x hx
  refine ⟨hs _ (by omega) (by omega) fun y hy => ?_, hs _ (by omega) (by omega) fun y hy => ?_, fun hu => hs _ (by omega) (by omega) fun y hy => ?_⟩
  · have := h5 y hy; omega
  · have := h5 y hy; omega
  · rcases h5 y hy with h6 | h6
    · rw [hu] at h6; exact absurd h6.2 (by decide)
    · omega
end
/-! ### a heap, but for its lists -/
structure HeapF (f : Nat → Nat) (E : Nat) (bs : List Blk) : Prop where
  head : HeadOk f
  top : f 16 = E
  low : E ≤ 4800
  told : Told f E 3776 bs E
  hung : Hung f (freesB bs)
section
variable {f g : Nat → Nat} {E lo hi : Nat} {bs A X Y C : List Blk} {L L' : Nat → List Nat}
theorem SoundF.heap (h : SoundF f E bs L) : HeapF f E bs := ⟨h.head, h.top, h.low, h.told, h.tree.hung fun _ _ => rfl⟩
theorem HeapF.freeL (h : HeapF f E bs) : FreeL (freesB bs) := h.told.freeL h.low
theorem HeapF.grid (h : HeapF f E bs) : Grid (usedB bs) := h.told.grid h.low
theorem HeapF.sound (h : HeapF f E bs) (hm : Mg bs) (hl : Ledg (usedB bs) f L) (hw : ∀ b ∈ bs, b.u = true → ∀ c, c < 8 → (b.off ∈ L c ↔ b.o = (c : Int) + 1)) : SoundF f E bs L :=
  ⟨h.head, h.top, h.low, h.told, hm, h.hung.is h.freeL (fun _ hx => hx), hl, hw⟩
/-- a free block's offset, and any block, where blocks are told -/
theorem Told.free_far {o e : Nat} (h : Told f E o bs e) {x : Blk} (hx : x ∈ bs) {y : Nat} (hy : y ∈ freesB bs) : (y = x.off ∧ x.u = false) ∨ y + 48 ≤ x.off ∨ x.off + x.s ≤ y := by
  obtain ⟨c, hc, hu, rfl⟩ := freesB_mem.1 hy
  by_cases e : c.off = x.off
  · have := h.one hc hx e
    subst this
    exact .inl ⟨rfl, hu⟩
  · have h1 := h.sep hc hx e
    have h2 := (h.is c hc).size
    omega
theorem Told.used_far {o e : Nat} (h : Told f E o bs e) {x : Blk} (hx : x ∈ bs) {y : Nat} (hy : y ∈ usedB bs) : (y = x.off ∧ x.u = true) ∨ y + 48 ≤ x.off ∨ x.off + x.s ≤ y := by
  obtain ⟨c, hc, hu, rfl⟩ := usedB_mem.1 hy
  by_cases e : c.off = x.off
  · have := h.one hc hx e
    subst this
    exact .inl ⟨rfl, hu⟩
  · have h1 := h.sep hc hx e
    have h2 := (h.is c hc).size
    omega
/-- other blocks in the place of some -/
theorem HeapF.swap (h : HeapF f E (A ++ (X ++ C))) (h1 : Told f E 3776 A lo) (h2 : Told f E hi C E) (hs : Stay f g lo hi (freesB A ++ freesB C)) (hY : Told g E lo Y hi) (hlh : lo ≤ hi) (hH : Hung g (freesB (A ++ (Y ++ C)))) : HeapF g E (A ++ (Y ++ C)) := by
  have hlo := h1.le
  have hF : ∀ y ∈ freesB A ++ freesB C, y ∈ freesB (A ++ (X ++ C)) := fun y hy => by
    rw [freesB_append, freesB_append]
    simp only [List.mem_append] at hy ⊢
    rcases hy with hy | hy
    · exact .inl hy
    · exact .inr (.inr hy)
  have h48 : ∀ y ∈ freesB A ++ freesB C, 48 ≤ y := fun y hy => by
    have := h.freeL.on y (hF y hy)
    omega
  refine ⟨hs.headOk (by omega) h48 h.head, (hs.top (by omega) h48).trans h.top, h.low, ?_, hH⟩
  refine told_append.2 ⟨lo, h1.stay (Nat.le_refl _) hs (fun x hx => .inl (h1.within x hx).2) (fun x hx y hy => h.told.free_far (by simp [hx]) (hF y hy)), told_append.2 ⟨hi, hY, h2.stay (by omega) hs (fun x hx => .inr (h2.within x hx).1) (fun x hx y hy => h.told.free_far (by simp [hx]) (hF y hy))⟩⟩
/-- the lists' words of blocks outside stay, too -/
theorem Ledg.stay {U : List Nat} {F : List Nat} (h : Ledg U f L) (hs : Stay f g lo hi F) (hlo : 3776 ≤ lo) (hF : ∀ y ∈ F, 3776 ≤ y) (hU : ∀ x ∈ U, 3776 ≤ x ∧ (x + 48 ≤ lo ∨ hi ≤ x) ∧ ∀ y ∈ F, y + 48 ≤ x ∨ x + 48 ≤ y) : Ledg U g L := by
  refine h.congr (fun c hc => ?_) (fun x hx => ?_)
  · have := slotH_lt hc
    unfold slotH at *
    exact hs _ (by omega) (by omega) fun y hy => by have := hF y hy; omega
  · obtain ⟨h1, h2, h3⟩ := hU x hx
    exact ⟨hs _ (by omega) (by omega) fun y hy => by have := h3 y hy; omega, hs _ (by omega) (by omega) fun y hy => by have := h3 y hy; omega⟩
/-- Lists that turn leave all else. -/
def LStay (f g : Nat → Nat) (U : List Nat) : Prop := ∀ x, (∀ c, c < 8 → x ≠ slotH c) → (∀ q ∈ U, x ≠ q + 16 ∧ x ≠ q + 24) → g x = f x
theorem HeapF.relist (h : HeapF f E bs) (hs : LStay f g (usedB bs)) : HeapF g E bs := by
  have hU := h.grid
  have h48 : ∀ x, x < 64 → g x = f x := fun x hx => hs x (fun c hc => by unfold slotH; omega) (fun q hq => by have := hU.lo q hq; omega)
  have hfree : ∀ x ∈ freesB bs, g x = f x ∧ g (x + 8) = f (x + 8) ∧ g (x + 16) = f (x + 16) := fun x hx => by
    have h1 := h.freeL.on x hx
    obtain ⟨b, hb, hu, rfl⟩ := freesB_mem.1 hx
    have hz := (h.told.is b hb).size
    have hq : ∀ q ∈ usedB bs, q + 48 ≤ b.off ∨ b.off + b.s ≤ q := fun q hq => by
      rcases h.told.used_far hb hq with h2 | h2
      · rw [hu] at h2; exact absurd h2.2 (by decide)
      · exact h2
    refine ⟨hs _ (fun c hc => ?_) fun q hq' => ?_, hs _ (fun c hc => ?_) fun q hq' => ?_, hs _ (fun c hc => ?_) fun q hq' => ?_⟩
    · have := slotH_lt hc; omega
    · have := hq q hq'; omega
    · have := slotH_lt hc; omega
    · have := hq q hq'; omega
    · have := slotH_lt hc; omega
    · have := hq q hq'; omega
  refine ⟨h.head.congr fun q hq _ => h48 q (by omega), (h48 16 (by decide)).trans h.top, h.low, h.told.congr fun x hx => ?_, h.hung.congr (h48 32 (by decide)) hfree⟩
  have hb := h.told.is x hx
  have hz := hb.size
  have hl := hb.lo
  have hq : ∀ q ∈ usedB bs, q = x.off ∨ q + 48 ≤ x.off ∨ x.off + x.s ≤ q := fun q hq => by
    rcases h.told.used_far hx hq with h2 | h2
    · exact .inl h2.1
    · exact .inr h2
  refine ⟨hs _ (fun c hc => ?_) fun q hq' => ?_, hs _ (fun c hc => ?_) fun q hq' => ?_, fun _ => hs _ (fun c hc => ?_) fun q hq' => ?_⟩
  · have := slotH_lt hc; omega
  · have := hq q hq'; omega
  · have := slotH_lt hc; omega
  · have := hq q hq'; omega
  · have := slotH_lt hc; omega
  · have := hq q hq'; omega
theorem LStay.link {U : List Nat} {c off : Nat} (h : Ledg U f L) (hU : Grid U) (hc : c < 8) (ho : off ∈ U) : LStay f (linkF f c off) U := fun x h1 h2 => by
  unfold linkF
  have hx := h2 off ho
  rw [if_neg (h1 c hc), if_neg (fun e => (h2 _ (h.head_on hU hc e.1).1).2 e.2), if_neg hx.2, if_neg hx.1]
end
end Go.Proofs.YtoamlkljfmgomaaGreat
