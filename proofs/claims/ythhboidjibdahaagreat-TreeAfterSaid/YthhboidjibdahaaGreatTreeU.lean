/-
  Package tree: the contract of shape: the tree of blocks, as a row of nodes by their keys.
  Conditions: the Tx stands in memory; the blocks' offsets lie in memory, and are unlike.
-/
import Derived.Test.YthhboidjibdahaaGreatTreeR
import Derived.Test.YthhboidjibdahaaGreatTreeD
namespace Go.Proofs.YthhboidjibdahaaGreat
open Go.RowKit
set_option linter.unusedVariables false
set_option linter.unusedSimpArgs false
set_option maxRecDepth 100000

/-- the nodes' i-th one -/
def ndI (nds : List Nd) (i : Nat) : Nd := nds.getD i default
theorem ndI_set (nds : List Nd) (k j : Nat) (a : Nd) (hk : k < nds.length) : ndI (nds.set k a) j = if k = j then a else ndI nds j := by
  unfold ndI
  rw [List.getD_eq_getElem?_getD, List.getElem?_set]
  by_cases e : k = j
  · rw [if_pos e, if_pos (by omega), if_pos e]; rfl
  · rw [if_neg e, if_neg e, ← List.getD_eq_getElem?_getD]
/-- The words g are the nodes' sons, and the root. -/
structure NSay (g : Nat → Nat) (root : Nat) (nds : List Nd) : Prop where
  root : g 32 = root
  sons : ∀ i, i < nds.length → g ((ndI nds i).o + 8) = (ndI nds i).l ∧ g ((ndI nds i).o + 16) = (ndI nds i).r
/-- What holds of the edge between two rounds. -/
structure ShI (w wr : World) (ab gb n : Nat) (S : List Nat) (v : Value) (nds : List Nd) (es : List Nat) (root k : Nat) : Prop where
  nodes : NodesAt wr gb nds
  len : nds.length = n
  offs : ∀ j, j < n → (ndI nds j).o = S.getD j 0
  above : wr.heap[ab]? = some (.cells #[.int .u64 0, .int .u64 0, .int .u64 0, .int .u64 (root : Nat)] 72 (0, 0))
  edge : OwnE wr (ab + 1) v ab gb es
  ahead : ∀ e, e ∈ es → e < k
  spine : ∃ g b, NSay g root nds ∧ Spine g 32 (es.map fun i => S.getD i 0) b (S.take k) ∧ g b = 0
  rest : ∀ j, k ≤ j → j < n → (ndI nds j).l = 0 ∧ (ndI nds j).r = 0
  grown : w.grownBy wr none
  at_ : w.heap.size ≤ gb ∧ gb < ab
  short : es.length ≤ k
def shE (S es : List Nat) : List Nat := es.map fun i => S.getD i 0
theorem shE_len (S es : List Nat) : (shE S es).length = es.length := by simp [shE]
theorem shE_get (S es : List Nat) (j : Nat) (h : j < es.length) : (shE S es).getD j 0 = S.getD (es.getD j 0) 0 := by
  unfold shE
  rw [List.getD_eq_getElem?_getD, List.getElem?_map, List.getElem?_eq_getElem h, List.getD_eq_getElem?_getD (l := es), List.getElem?_eq_getElem h]
  rfl
theorem shE_take (S es : List Nat) (k : Nat) : shE S (es.take k) = (shE S es).take k := by simp [shE, List.map_take]
theorem shE_snoc (S es : List Nat) (k : Nat) : shE S (es ++ [k]) = shE S es ++ [S.getD k 0] := by simp [shE]
section
variable {w wr wq : World} {ab gb n k t root : Nat} {S es F : List Nat} {v : Value} {nds : List Nd} {g : Nat → Nat}
/-- a node within the row that pops the edge -/
structure ShP (wr wq : World) (gb n : Nat) (S es : List Nat) (nds : List Nd) (k t : Nat) : Prop where
  le : t ≤ es.length
  nodes : NodesAt wq gb (nds.set k { ndI nds k with l := popL (shE S es) t })
  popped : ∀ j, t ≤ j → j < es.length → rkN ((shE S es).getD j 0) < rkN (S.getD k 0)
  grown : wr.grownBy wq (some gb)
theorem ShI.pop0 (h : ShI w wr ab gb n S v nds es root k) (hk : k < n) : ShP wr wr gb n S es nds k es.length where
  le := Nat.le_refl _
  nodes := by
    have e : popL (shE S es) es.length = 0 := by
      unfold popL
      rw [List.getD_eq_getElem?_getD, List.getElem?_eq_none (by rw [shE_len]; exact Nat.le_refl _)]; rfl
    have hr := (h.rest k (Nat.le_refl _) hk).1
    rw [e]
    have : nds.set k { ndI nds k with l := 0 } = nds := by
      have hx : ({ ndI nds k with l := 0 } : Nd) = ndI nds k := by rw [← hr]
      rw [hx]
      apply List.ext_getElem?
      intro j
      rw [List.getElem?_set]
      by_cases e : k = j
      · subst e
        rw [if_pos rfl, if_pos (by rw [h.len]; exact hk)]
        unfold ndI
        rw [List.getD_eq_getElem?_getD, List.getElem?_eq_getElem (by rw [h.len]; exact hk)]
        rfl
      · rw [if_neg e]
    rw [this]
    exact h.nodes
  popped := fun j h1 h2 => by omega
  grown := grown_refl _ _
theorem set_set_same (nds : List Nd) (k : Nat) (a b : Nd) : (nds.set k a).set k b = nds.set k b := by simp
/-- one more is popped -/
theorem ShP.pop (h : ShP wr wq gb n S es nds k t) (hlen : nds.length = n) (hk : k < n) (ht : 0 < t) (hr : rkN ((shE S es).getD (t - 1) 0) < rkN (S.getD k 0)) : ShP wr (wq.setCell ⟨gb, k * 4 + 2, none⟩ (.int .u64 ((shE S es).getD (t - 1) 0 : Nat))) gb n S es nds k (t - 1) where
  le := by have := h.le; omega
  nodes := by
    have h1 := h.nodes.setL (k := k) (by simp; omega) ((shE S es).getD (t - 1) 0)
    rw [set_set_same] at h1
    have e : ({ (nds.set k { ndI nds k with l := popL (shE S es) t }).getD k default with l := (shE S es).getD (t - 1) 0 } : Nd) = { ndI nds k with l := popL (shE S es) (t - 1) } := by
      have := ndI_set nds k k { ndI nds k with l := popL (shE S es) t } (by omega)
      unfold ndI at this ⊢
      rw [this, if_pos rfl]
      rfl
    rw [e] at h1
    exact h1
  popped := fun j h1 h2 => by
    by_cases e : j = t - 1
    · rw [e]; exact hr
    · exact h.popped j (by omega) h2
  grown := grown_trans h.grown (grown_set _ _ _ _)
/-- the link of the edge at which the block comes in: of its own node's right son, or the root -/
def upd2 (g : Nat → Nat) (a u b v : Nat) : Nat → Nat := fun q => if q = b then v else if q = a then u else g q
theorem NSay.step (h : NSay g root nds) (hlen : nds.length = n) (ho : ∀ j, j < n → (ndI nds j).o = S.getD j 0) (hF : FreeL F) (hS : ∀ j, j < n → S.getD j 0 ∈ F) (hnd : ∀ i j, i < n → j < n → S.getD i 0 = S.getD j 0 → i = j) (hk : k < n) (u : Nat) :
    NSay (upd2 g (S.getD k 0 + 8) u 32 (S.getD k 0)) (S.getD k 0) (nds.set k { ndI nds k with l := u }) ∧
    ∀ e, e < n → e ≠ k → NSay (upd2 g (S.getD k 0 + 8) u (S.getD e 0 + 16) (S.getD k 0)) root ((nds.set k { ndI nds k with l := u }).set e { ndI (nds.set k { ndI nds k with l := u }) e with r := S.getD k 0 }) := by
  have h32 : ∀ j, j < n → S.getD j 0 + 8 ≠ 32 ∧ S.getD j 0 + 16 ≠ 32 := fun j hj => by have := hF.on _ (hS j hj); omega
  have far : ∀ i j, i < n → j < n → i ≠ j → S.getD i 0 + 48 ≤ S.getD j 0 ∨ S.getD j 0 + 48 ≤ S.getD i 0 := fun i j hi hj hne => hF.far (hS i hi) (hS j hj) fun e => hne (hnd i j hi hj e)
  constructor
  · refine ⟨by unfold upd2; rw [if_pos rfl], fun i hi => ?_⟩
    have hi' : i < n := by simpa [hlen] using hi
    have hi2 := h32 i hi'
    have hs := h.sons i (by omega)
    rw [ho i hi'] at hs
    rw [ndI_set nds k i _ (by omega)]
    by_cases e : k = i
    · subst e
      rw [if_pos rfl]
      show upd2 _ _ _ _ _ ((ndI nds k).o + 8) = u ∧ upd2 _ _ _ _ _ ((ndI nds k).o + 16) = (ndI nds k).r
      rw [ho k hk]
      unfold upd2
      rw [if_neg hi2.1, if_pos rfl, if_neg hi2.2, if_neg (by omega)]
      exact ⟨rfl, hs.2⟩
    · rw [if_neg e, ho i hi']
      have hf := far i k hi' hk (fun e2 => e e2.symm)
      unfold upd2
      rw [if_neg hi2.1, if_neg (by omega), if_neg hi2.2, if_neg (by omega)]
      exact hs
  · intro e he hek
    refine ⟨?_, fun i hi => ?_⟩
    · unfold upd2
      rw [if_neg (by have := (h32 e he).2; omega), if_neg (by have := (h32 k hk).1; omega)]
      exact h.root
    · have hi' : i < n := by simpa [hlen] using hi
      have hs := h.sons i (by omega)
      rw [ho i hi'] at hs
      rw [ndI_set _ e i _ (by simp; omega)]
      have hfk := far e k he hk hek
      by_cases e1 : e = i
      · subst e1
        rw [if_pos rfl]
        have e3 : ndI (nds.set k { ndI nds k with l := u }) e = ndI nds e := by rw [ndI_set nds k e _ (by omega), if_neg (fun e2 => hek e2.symm)]
        rw [e3]
        show upd2 _ _ _ _ _ ((ndI nds e).o + 8) = (ndI nds e).l ∧ upd2 _ _ _ _ _ ((ndI nds e).o + 16) = S.getD k 0
        rw [ho e he]
        unfold upd2
        rw [if_neg (by omega), if_neg (by omega), if_pos rfl]
        exact ⟨hs.1, rfl⟩
      · rw [if_neg e1, ndI_set nds k i _ (by omega)]
        have hf1 := far e i he hi' e1
        by_cases e2 : k = i
        · subst e2
          rw [if_pos rfl]
          show upd2 _ _ _ _ _ ((ndI nds k).o + 8) = u ∧ upd2 _ _ _ _ _ ((ndI nds k).o + 16) = (ndI nds k).r
          rw [ho k hk]
          unfold upd2
          rw [if_neg (by omega), if_pos rfl, if_neg (by omega), if_neg (by omega)]
          exact ⟨rfl, hs.2⟩
        · rw [if_neg e2, ho i hi']
          have hf2 := far i k hi' hk (fun e => e2 e.symm)
          unfold upd2
          rw [if_neg (by omega), if_neg (by omega), if_neg (by omega), if_neg (by omega)]
          exact hs
/-- blocks by their keys: where they stand, and that they are unlike -/
structure SOk (F S : List Nat) (n : Nat) : Prop where
  free : FreeL F
  len : S.length = n
  sub : ∀ x, x ∈ S → x ∈ F
  nodup : S.Nodup
theorem SOk.mem (h : SOk F S n) {j : Nat} (hj : j < n) : S.getD j 0 ∈ S := by
  rw [List.getD_eq_getElem?_getD, List.getElem?_eq_getElem (by rw [h.len]; exact hj)]
  exact List.getElem_mem _
theorem SOk.inj (h : SOk F S n) {i j : Nat} (hi : i < n) (hj : j < n) (e : S.getD i 0 = S.getD j 0) : i = j := by
  rw [List.getD_eq_getElem?_getD, List.getD_eq_getElem?_getD, List.getElem?_eq_getElem (by rw [h.len]; exact hi), List.getElem?_eq_getElem (by rw [h.len]; exact hj)] at e
  exact (List.getElem_inj h.nodup).1 e
theorem SOk.takeS (h : SOk F S n) {k : Nat} (hk : k < n) : S.take (k + 1) = S.take k ++ [S.getD k 0] := by
  rw [List.take_succ_eq_append_getElem (by rw [h.len]; exact hk), List.getD_eq_getElem?_getD, List.getElem?_eq_getElem (by rw [h.len]; exact hk)]
  rfl
theorem SOk.out (h : SOk F S n) {k : Nat} (hk : k < n) : S.getD k 0 ∉ S.take k := by
  have h1 := h.nodup
  rw [← List.take_append_drop k S, List.nodup_append] at h1
  intro hm
  refine h1.2.2 _ hm (S.getD k 0) ?_ rfl
  rw [List.getD_eq_getElem?_getD, List.getElem?_eq_getElem (by rw [h.len]; exact hk), List.drop_eq_getElem_cons (by rw [h.len]; exact hk)]
  exact List.mem_cons_self
theorem shI_spine {es : List Nat} {root : Nat} {nds : List Nd} {v : Value} (hS : SOk F S n) (h : ShI w wr ab gb n S v nds es root k) (hk : k < n) (ht : t ≤ es.length)
    (hp : ∀ j, t ≤ j → j < es.length → rkN ((shE S es).getD j 0) < rkN (S.getD k 0)) (hs : t = 0 ∨ rkN (S.getD k 0) < rkN ((shE S es).getD (t - 1) 0)) :
    ∃ g, NSay g root nds ∧ ∃ b, Spine (upd2 g (S.getD k 0 + 8) (popL (shE S es) t) (lkE (shE S es) t) (S.getD k 0)) 32 (shE S (es.take t ++ [k])) b (S.take (k + 1)) ∧ upd2 g (S.getD k 0 + 8) (popL (shE S es) t) (lkE (shE S es) t) (S.getD k 0) b = 0 := by
  obtain ⟨g, b, hN, hsp, hb⟩ := h.spine
  have hx := hS.sub _ (hS.mem hk)
  have h16 : g (S.getD k 0 + 16) = 0 := by
    have h1 := (hN.sons k (by rw [h.len]; exact hk)).2
    rw [h.offs k hk] at h1
    rw [h1, (h.rest k (Nat.le_refl _) hk).2]
  have hne : S.getD k 0 + 8 ≠ lkE (shE S es) t := by
    unfold lkE
    split
    · have := hS.free.on _ hx; omega
    · rename_i h0
      have hle : t - 1 < es.length := by omega
      rw [shE_get S es _ hle]
      have he := h.ahead (es.getD (t - 1) 0) (by rw [List.getD_eq_getElem?_getD, List.getElem?_eq_getElem hle]; exact List.getElem_mem _)
      have := hS.free.far hx (hS.sub _ (hS.mem (show es.getD (t - 1) 0 < n by omega))) (fun e => by have := hS.inj hk (by omega) e; omega)
      omega
  have := spine_pop (g' := upd2 g (S.getD k 0 + 8) (popL (shE S es) t) (lkE (shE S es) t) (S.getD k 0)) hS.free hsp hb (fun x hx => hS.sub x (List.mem_of_mem_take hx)) hx (hS.out hk) (hS.nodup.sublist (List.take_sublist _ _)) (by simpa using ht) (fun j h1 h2 => hp j h1 (by simpa using h2)) hs h16
    (fun q q1 q2 => by unfold upd2; rw [if_neg (show ¬ q = lkE (shE S es) t from q2), if_neg q1]) (by unfold upd2; rw [if_neg hne, if_pos rfl]; rfl) (by unfold upd2; exact if_pos rfl)
  refine ⟨g, hN, _, ?_, this.2⟩
  rw [hS.takeS hk, shE_snoc, shE_take]
  exact this.1
theorem ShI.next0 {es : List Nat} {root : Nat} {nds : List Nd} {v v' : Value} {w3 : World} (hS : SOk F S n) (h : ShI w wr ab gb n S v nds es root k) (hk : k < n)
    (hp : ShP wr wq gb n S es nds k 0) (h1 : NodesAt w3 gb (nds.set k { ndI nds k with l := popL (shE S es) 0 })) (h2 : w3.heap[ab]? = some (.cells #[.int .u64 0, .int .u64 0, .int .u64 0, .int .u64 (S.getD k 0 : Nat)] 72 (0, 0))) (h3 : OwnE w3 (ab + 1) v' ab gb (es.take 0 ++ [k])) (h4 : w.grownBy w3 none) :
    ShI w w3 ab gb n S v' (nds.set k { ndI nds k with l := popL (shE S es) 0 }) (es.take 0 ++ [k]) (S.getD k 0) (k + 1) := by
  obtain ⟨g, hN, b, hsp, hb⟩ := shI_spine hS h hk (Nat.zero_le _) hp.popped (.inl rfl)
  have hst := (hN.step h.len h.offs hS.free (fun j hj => hS.sub _ (hS.mem hj)) (fun i j hi hj => hS.inj hi hj) hk (popL (shE S es) 0)).1
  refine ⟨h1, by simp [h.len], fun j hj => ?_, h2, h3, fun e he => ?_, ⟨_, b, hst, hsp, hb⟩, fun j hj1 hj2 => ?_, h4, h.at_, by simp⟩
  · rw [ndI_set nds k j _ (by rw [h.len]; exact hk)]
    split
    · rename_i e; subst e; exact h.offs k hk
    · exact h.offs j hj
  · simp at he; omega
  · rw [ndI_set nds k j _ (by rw [h.len]; exact hk), if_neg (by omega)]
    exact h.rest j (by omega) hj2
theorem ShI.nextS {es : List Nat} {root : Nat} {nds : List Nd} {v v' : Value} {w3 : World} {e : Nat} (hS : SOk F S n) (h : ShI w wr ab gb n S v nds es root k) (hk : k < n) (ht : 0 < t) (he : es.getD (t - 1) 0 = e)
    (hp : ShP wr wq gb n S es nds k t) (hr : rkN (S.getD k 0) < rkN ((shE S es).getD (t - 1) 0))
    (h1 : NodesAt w3 gb ((nds.set k { ndI nds k with l := popL (shE S es) t }).set e { ndI (nds.set k { ndI nds k with l := popL (shE S es) t }) e with r := S.getD k 0 })) (h2 : w3.heap[ab]? = some (.cells #[.int .u64 0, .int .u64 0, .int .u64 0, .int .u64 (root : Nat)] 72 (0, 0))) (h3 : OwnE w3 (ab + 1) v' ab gb (es.take t ++ [k])) (h4 : w.grownBy w3 none) :
    ShI w w3 ab gb n S v' ((nds.set k { ndI nds k with l := popL (shE S es) t }).set e { ndI (nds.set k { ndI nds k with l := popL (shE S es) t }) e with r := S.getD k 0 }) (es.take t ++ [k]) root (k + 1) := by
  obtain ⟨g, hN, b, hsp, hb⟩ := shI_spine hS h hk hp.le hp.popped (.inr hr)
  have hle : t - 1 < es.length := by have := hp.le; omega
  have hem : e ∈ es := by
    rw [← he, List.getD_eq_getElem?_getD, List.getElem?_eq_getElem hle]
    exact List.getElem_mem _
  have hek := h.ahead e hem
  have hst := (hN.step h.len h.offs hS.free (fun j hj => hS.sub _ (hS.mem hj)) (fun i j hi hj => hS.inj hi hj) hk (popL (shE S es) t)).2 e (by omega) (by omega)
  have hlk : lkE (shE S es) t = S.getD e 0 + 16 := by
    unfold lkE
    rw [if_neg (by omega), shE_get S es _ hle, he]
  rw [hlk] at hsp hb
  refine ⟨h1, by simp [h.len], fun j hj => ?_, h2, h3, fun x hx => ?_, ⟨_, b, hst, hsp, hb⟩, fun j hj1 hj2 => ?_, h4, h.at_, by have := hp.le; have := h.short; simp; omega⟩
  · rw [ndI_set _ e j _ (by simp [h.len]; omega)]
    have hbase : (ndI (nds.set k { ndI nds k with l := popL (shE S es) t }) j).o = S.getD j 0 := by
      rw [ndI_set nds k j _ (by rw [h.len]; exact hk)]
      split
      · rename_i e2; subst e2; exact h.offs k hk
      · exact h.offs j hj
    split
    · rename_i e2; subst e2; exact hbase
    · exact hbase
  · rcases List.mem_append.1 hx with hx | hx
    · have := h.ahead x (List.mem_of_mem_take hx); omega
    · have : x = k := by simpa using hx
      omega
  · rw [ndI_set _ e j _ (by simp [h.len]; omega), if_neg (by omega), ndI_set nds k j _ (by rw [h.len]; exact hk), if_neg (by omega)]
    exact h.rest j (by omega) hj2
theorem ShI.first {w3 : World} {nd : List Nd} (h : NodesAt w3 gb nd) (hgb : w.heap.size ≤ gb) (hg : w.grownBy w3 none) (hl : nd.length = n) (ho : ∀ j, j < n → (ndI nd j).o = S.getD j 0) (hz : ∀ j, j < n → (ndI nd j).l = 0 ∧ (ndI nd j).r = 0) :
    ShI w ((w3.alloc (.cells #[.int .u64 0, .int .u64 0, .int .u64 0, .int .u64 0] 72)).alloc (.cells #[.pointer (some ⟨w3.heap.size, 0, none⟩)] 107)) w3.heap.size gb n S (.slice (some ⟨w3.heap.size + 1, 0, none⟩) 1 1) nd [] 0 0 := by
  have g1 := World.grownBy_alloc w3 (.cells #[.int .u64 0, .int .u64 0, .int .u64 0, .int .u64 0] 72) none
  have g2 := World.grownBy_alloc (w3.alloc (.cells #[.int .u64 0, .int .u64 0, .int .u64 0, .int .u64 0] 72)) (.cells #[.pointer (some ⟨w3.heap.size, 0, none⟩)] 107) none
  have ha := heap_alloc_new' w3 (.cells #[.int .u64 0, .int .u64 0, .int .u64 0, .int .u64 0] 72)
  have he := heap_alloc_new' (w3.alloc (.cells #[.int .u64 0, .int .u64 0, .int .u64 0, .int .u64 0] 72)) (.cells #[.pointer (some ⟨w3.heap.size, 0, none⟩)] 107)
  rw [World.size_alloc] at he
  refine ⟨h.later (grown_trans g1 g2) (by simp), hl, ho, (g2.block _ (lt_of_block ha) (by simp)).trans ha, ⟨rfl, .inr ⟨_, 1, _, rfl, by omega, he, by simp, by unfold maxLen; omega, rfl, rfl⟩⟩, by simp, ⟨fun _ => 0, 32, ⟨rfl, fun i hi => ?_⟩, ⟨rfl, by simp⟩, rfl⟩, fun j _ hj => hz j hj, grown_trans hg (grown_trans g1 g2), ⟨hgb, h.lt⟩, Nat.le_refl _⟩
  have := hz i (by omega)
  exact ⟨this.1.symm, this.2.symm⟩
/-- what the edge's cells are while nodes turn -/
theorem ShP.at_ {es : List Nat} {nds : List Nd} {eb : Nat} {cur : Array Value} (h : ShP wr wq gb n S es nds k t) (hgb : eb ≠ gb) (heb : wr.heap[eb]? = some (.cells cur 107 (0, 0))) : wq.heap[eb]? = wr.heap[eb]? :=
  h.grown.block _ (lt_of_block heb) (by simpa using hgb)
theorem ShP.off {es : List Nat} {nds : List Nd} (h : ShP wr wq gb n S es nds k t) (hlen : nds.length = n) (ho : ∀ j, j < n → (ndI nds j).o = S.getD j 0) (hk : k < n) (j : Nat) (hj : j < n) : wq.cell? ⟨gb, j * 4 + 1, none⟩ = some (.int .u64 (S.getD j 0 : Nat)) := by
  have := (h.nodes.cell (k := j) (by simp; omega)).2.1
  have e : ((nds.set k { ndI nds k with l := popL (shE S es) t }).getD j default).o = S.getD j 0 := by
    show (ndI (nds.set k { ndI nds k with l := popL (shE S es) t }) j).o = S.getD j 0
    rw [ndI_set nds k j { ndI nds k with l := popL (shE S es) t } (by omega)]
    split
    · rename_i e; subst e; exact ho k hk
    · exact ho j hj
  rw [e] at this
  exact this
theorem ShP.later {es : List Nat} {nds : List Nd} {w5 : World} (h : ShP wr wq gb n S es nds k t) (hg : wq.grownBy w5 none) : ShP wr w5 gb n S es nds k t :=
  ⟨h.le, h.nodes.later hg (by simp), h.popped, grown_trans h.grown (grown_any hg _)⟩
theorem grown_dN (w : World) (q : Nat) : w.grownBy (w.drewN q) none := ⟨rfl, rfl, rfl, Nat.le_refl _, fun _ _ _ => rfl⟩
theorem four_put {w : World} {b : Nat} {x y z u u' : Value} {t : TypeId} (h : w.heap[b]? = some (.cells #[x, y, z, u] t (0, 0))) : (w.setCell ⟨b, 3, none⟩ u').heap[b]? = some (.cells #[x, y, z, u'] t (0, 0)) := by
  rw [heap_setCell_same h u']; rfl
end
end Go.Proofs.YthhboidjibdahaaGreat
