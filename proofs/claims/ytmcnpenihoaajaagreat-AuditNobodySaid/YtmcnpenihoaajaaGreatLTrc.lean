/-
  Texts of one layer, one behind the other: memory, contracts of the functions, and what follows of them.
  Conditions: as each theorem says.
-/
import Derived.Test.YtmcnpenihoaajaaGreatLTrb
import Derived.Test.YtmcnpenihoaajaaGreatLTra
set_option linter.unusedVariables false
set_option linter.unusedSimpArgs false
namespace Go.Proofs.YtmcnpenihoaajaaGreat
open Go.RowKit
set_option maxRecDepth 100000
def ndI (nds : List Nd) (i : Nat) : Nd := nds.getD i default
theorem ndI_set (nds : List Nd) (k j : Nat) (a : Nd) (hk : k < nds.length) : ndI (nds.set k a) j = if k = j then a else ndI nds j := by
  unfold ndI
  rw [List.getD_eq_getElem?_getD, List.getElem?_set]
  by_cases e : k = j
  · rw [if_pos e, if_pos (by omega), if_pos e]; rfl
  · rw [if_neg e, if_neg e, ← List.getD_eq_getElem?_getD]
structure NSay (g : Nat → Nat) (root : Nat) (nds : List Nd) : Prop where
  root : g 32 = root
  sons : ∀ i, i < nds.length → g ((ndI nds i).o + 8) = (ndI nds i).l ∧ g ((ndI nds i).o + 16) = (ndI nds i).r
structure ShI (w wr : World) (ab gb n : Nat) (S : List Nat) (v : Value) (nds : List Nd) (es : List Nat) (root k : Nat) : Prop where
  nodes : NodesAt wr gb nds
  len : nds.length = n
  offs : ∀ j, j < n → (ndI nds j).o = S.getD j 0
  above : wr.heap[ab]? = some (.cells #[.int .u64 0, .int .u64 0, .int .u64 0, .int .u64 (root : Nat)] 159 (0, 0))
  edge : OwnE wr (ab + 1) v ab gb es
  ahead : ∀ e, e ∈ es → e < k
  spine : ∃ g b, NSay g root nds ∧ Spine g 32 (es.map fun i => S.getD i 0) b (S.take k) ∧ g b = 0
  rest : ∀ j, k ≤ j → j < n → (ndI nds j).l = 0 ∧ (ndI nds j).r = 0
  grown : w.grownBy wr none
  at_ : w.heap.size ≤ gb ∧ gb < ab
  short : es.length ≤ k
def shE (S es : List Nat) : List Nat := es.map fun i => S.getD i 0
theorem shE_len (S es : List Nat) : (shE S es).length = es.length := by simp [shE]
theorem shE_get (S es : List Nat) (j : Nat) (h : j < es.length) : (shE S es).getD j 0 = S.getD (es.getD j 0) 0 := by
  unfold shE
  rw [List.getD_eq_getElem?_getD, List.getElem?_map, List.getElem?_eq_getElem h, List.getD_eq_getElem?_getD (l := es), List.getElem?_eq_getElem h]
  rfl
theorem shE_take (S es : List Nat) (k : Nat) : shE S (es.take k) = (shE S es).take k := by simp [shE, List.map_take]
theorem shE_snoc (S es : List Nat) (k : Nat) : shE S (es ++ [k]) = shE S es ++ [S.getD k 0] := by simp [shE]
section
variable {w wr wq : World} {ab gb n k t root : Nat} {S es F : List Nat} {v : Value} {nds : List Nd} {g : Nat → Nat}
structure ShP (wr wq : World) (gb n : Nat) (S es : List Nat) (nds : List Nd) (k t : Nat) : Prop where
  le : t ≤ es.length
  nodes : NodesAt wq gb (nds.set k { ndI nds k with l := popL (shE S es) t })
  popped : ∀ j, t ≤ j → j < es.length → rkN ((shE S es).getD j 0) < rkN (S.getD k 0)
  grown : wr.grownBy wq (some gb)
theorem ShI.pop0 (h : ShI w wr ab gb n S v nds es root k) (hk : k < n) : ShP wr wr gb n S es nds k es.length where
  le := Nat.le_refl _
  nodes := by
    have e : popL (shE S es) es.length = 0 := by
      unfold popL
      rw [List.getD_eq_getElem?_getD, List.getElem?_eq_none (by rw [shE_len]; exact Nat.le_refl _)]; rfl
    have hr := (h.rest k (Nat.le_refl _) hk).1
    rw [e]
    have : nds.set k { ndI nds k with l := 0 } = nds := by
      have hx : ({ ndI nds k with l := 0 } : Nd) = ndI nds k := by rw [← hr]
      rw [hx]
      apply List.ext_getElem?
      intro j
      rw [List.getElem?_set]
      by_cases e : k = j
      · subst e
        rw [if_pos rfl, if_pos (by rw [h.len]; exact hk)]
        unfold ndI
        rw [List.getD_eq_getElem?_getD, List.getElem?_eq_getElem (by rw [h.len]; exact hk)]
        rfl
      · rw [if_neg e]
    rw [this]
    exact h.nodes
  popped := fun j h1 h2 => by omega
  grown := grown_refl _ _
theorem set_set_same (nds : List Nd) (k : Nat) (a b : Nd) : (nds.set k a).set k b = nds.set k b := by simp
theorem ShP.pop (h : ShP wr wq gb n S es nds k t) (hlen : nds.length = n) (hk : k < n) (ht : 0 < t) (hr : rkN ((shE S es).getD (t - 1) 0) < rkN (S.getD k 0)) : ShP wr (wq.setCell ⟨gb, k * 4 + 2, none⟩ (.int .u64 ((shE S es).getD (t - 1) 0 : Nat))) gb n S es nds k (t - 1) where
  le := by have := h.le; omega
  nodes := by
    have h1 := h.nodes.setL (k := k) (by simp; omega) ((shE S es).getD (t - 1) 0)
    rw [set_set_same] at h1
    have e : ({ (nds.set k { ndI nds k with l := popL (shE S es) t }).getD k default with l := (shE S es).getD (t - 1) 0 } : Nd) = { ndI nds k with l := popL (shE S es) (t - 1) } := by
      have := ndI_set nds k k { ndI nds k with l := popL (shE S es) t } (by omega)
      unfold ndI at this ⊢
      rw [this, if_pos rfl]
      rfl
    rw [e] at h1
    exact h1
  popped := fun j h1 h2 => by
    by_cases e : j = t - 1
    · rw [e]; exact hr
    · exact h.popped j (by omega) h2
  grown := grown_trans h.grown (grown_set _ _ _ _)
def upd2 (g : Nat → Nat) (a u b v : Nat) : Nat → Nat := fun q => if q = b then v else if q = a then u else g q
theorem NSay.step (h : NSay g root nds) (hlen : nds.length = n) (ho : ∀ j, j < n → (ndI nds j).o = S.getD j 0) (hF : FreeL F) (hS : ∀ j, j < n → S.getD j 0 ∈ F) (hnd : ∀ i j, i < n → j < n → S.getD i 0 = S.getD j 0 → i = j) (hk : k < n) (u : Nat) :
    NSay (upd2 g (S.getD k 0 + 8) u 32 (S.getD k 0)) (S.getD k 0) (nds.set k { ndI nds k with l := u }) ∧
    ∀ e, e < n → e ≠ k → NSay (upd2 g (S.getD k 0 + 8) u (S.getD e 0 + 16) (S.getD k 0)) root ((nds.set k { ndI nds k with l := u }).set e { ndI (nds.set k { ndI nds k with l := u }) e with r := S.getD k 0 }) := by
  have h32 : ∀ j, j < n → S.getD j 0 + 8 ≠ 32 ∧ S.getD j 0 + 16 ≠ 32 := fun j hj => by have := hF.on _ (hS j hj); omega
  have far : ∀ i j, i < n → j < n → i ≠ j → S.getD i 0 + 48 ≤ S.getD j 0 ∨ S.getD j 0 + 48 ≤ S.getD i 0 := fun i j hi hj hne => hF.far (hS i hi) (hS j hj) fun e => hne (hnd i j hi hj e)
  constructor
  · refine ⟨by unfold upd2; rw [if_pos rfl], fun i hi => ?_⟩
    have hi' : i < n := by simpa [hlen] using hi
    have hi2 := h32 i hi'
    have hs := h.sons i (by omega)
    rw [ho i hi'] at hs
    rw [ndI_set nds k i _ (by omega)]
    by_cases e : k = i
    · subst e
      rw [if_pos rfl]
      show upd2 _ _ _ _ _ ((ndI nds k).o + 8) = u ∧ upd2 _ _ _ _ _ ((ndI nds k).o + 16) = (ndI nds k).r
      rw [ho k hk]
      unfold upd2
      rw [if_neg hi2.1, if_pos rfl, if_neg hi2.2, if_neg (by omega)]
      exact ⟨rfl, hs.2⟩
    · rw [if_neg e, ho i hi']
      have hf := far i k hi' hk (fun e2 => e e2.symm)
      unfold upd2
      rw [if_neg hi2.1, if_neg (by omega), if_neg hi2.2, if_neg (by omega)]
      exact hs
  · intro e he hek
    refine ⟨?_, fun i hi => ?_⟩
    · unfold upd2
      rw [if_neg (by have := (h32 e he).2; omega), if_neg (by have := (h32 k hk).1; omega)]
      exact h.root
    · have hi' : i < n := by simpa [hlen] using hi
      have hs := h.sons i (by omega)
      rw [ho i hi'] at hs
      rw [ndI_set _ e i _ (by simp; omega)]
      have hfk := far e k he hk hek
      by_cases e1 : e = i
      · subst e1
        rw [if_pos rfl]
        have e3 : ndI (nds.set k { ndI nds k with l := u }) e = ndI nds e := by rw [ndI_set nds k e _ (by omega), if_neg (fun e2 => hek e2.symm)]
        rw [e3]
        show upd2 _ _ _ _ _ ((ndI nds e).o + 8) = (ndI nds e).l ∧ upd2 _ _ _ _ _ ((ndI nds e).o + 16) = S.getD k 0
        rw [ho e he]
        unfold upd2
        rw [if_neg (by omega), if_neg (by omega), if_pos rfl]
        exact ⟨hs.1, rfl⟩
      · rw [if_neg e1, ndI_set nds k i _ (by omega)]
        have hf1 := far e i he hi' e1
        by_cases e2 : k = i
        · subst e2
          rw [if_pos rfl]
          show upd2 _ _ _ _ _ ((ndI nds k).o + 8) = u ∧ upd2 _ _ _ _ _ ((ndI nds k).o + 16) = (ndI nds k).r
          rw [ho k hk]
          unfold upd2
          rw [if_neg (by omega), if_pos rfl, if_neg (by omega), if_neg (by omega)]
          exact ⟨rfl, hs.2⟩
        · rw [if_neg e2, ho i hi']
          have hf2 := far i k hi' hk (fun e => e2 e.symm)
          unfold upd2
          rw [if_neg (by omega), if_neg (by omega), if_neg (by omega), if_neg (by omega)]
          exact hs
structure SOk (F S : List Nat) (n : Nat) : Prop where
  free : FreeL F
  len : S.length = n
  sub : ∀ x, x ∈ S → x ∈ F
  nodup : S.Nodup
theorem SOk.mem (h : SOk F S n) {j : Nat} (hj : j < n) : S.getD j 0 ∈ S := by
  rw [List.getD_eq_getElem?_getD, List.getElem?_eq_getElem (by rw [h.len]; exact hj)]
  exact List.getElem_mem _
theorem SOk.inj (h : SOk F S n) {i j : Nat} (hi : i < n) (hj : j < n) (e : S.getD i 0 = S.getD j 0) : i = j := by
  rw [List.getD_eq_getElem?_getD, List.getD_eq_getElem?_getD, List.getElem?_eq_getElem (by rw [h.len]; exact hi), List.getElem?_eq_getElem (by rw [h.len]; exact hj)] at e
  exact (List.getElem_inj h.nodup).1 e
theorem SOk.takeS (h : SOk F S n) {k : Nat} (hk : k < n) : S.take (k + 1) = S.take k ++ [S.getD k 0] := by
  rw [List.take_succ_eq_append_getElem (by rw [h.len]; exact hk), List.getD_eq_getElem?_getD, List.getElem?_eq_getElem (by rw [h.len]; exact hk)]
  rfl
theorem SOk.out (h : SOk F S n) {k : Nat} (hk : k < n) : S.getD k 0 ∉ S.take k := by
  have h1 := h.nodup
  rw [← List.take_append_drop k S, List.nodup_append] at h1
  intro hm
  refine h1.2.2 _ hm (S.getD k 0) ?_ rfl
  rw [List.getD_eq_getElem?_getD, List.getElem?_eq_getElem (by rw [h.len]; exact hk), List.drop_eq_getElem_cons (by rw [h.len]; exact hk)]
  exact List.mem_cons_self
theorem shI_spine {es : List Nat} {root : Nat} {nds : List Nd} {v : Value} (hS : SOk F S n) (h : ShI w wr ab gb n S v nds es root k) (hk : k < n) (ht : t ≤ es.length)
    (hp : ∀ j, t ≤ j → j < es.length → rkN ((shE S es).getD j 0) < rkN (S.getD k 0)) (hs : t = 0 ∨ rkN (S.getD k 0) < rkN ((shE S es).getD (t - 1) 0)) :
    ∃ g, NSay g root nds ∧ ∃ b, Spine (upd2 g (S.getD k 0 + 8) (popL (shE S es) t) (lkE (shE S es) t) (S.getD k 0)) 32 (shE S (es.take t ++ [k])) b (S.take (k + 1)) ∧ upd2 g (S.getD k 0 + 8) (popL (shE S es) t) (lkE (shE S es) t) (S.getD k 0) b = 0 := by
  obtain ⟨g, b, hN, hsp, hb⟩ := h.spine
  have hx := hS.sub _ (hS.mem hk)
  have h16 : g (S.getD k 0 + 16) = 0 := by
    have h1 := (hN.sons k (by rw [h.len]; exact hk)).2
    rw [h.offs k hk] at h1
    rw [h1, (h.rest k (Nat.le_refl _) hk).2]
  have hne : S.getD k 0 + 8 ≠ lkE (shE S es) t := by
    unfold lkE
    split
    · have := hS.free.on _ hx; omega
    · rename_i h0
      have hle : t - 1 < es.length := by omega
      rw [shE_get S es _ hle]
      have he := h.ahead (es.getD (t - 1) 0) (by rw [List.getD_eq_getElem?_getD, List.getElem?_eq_getElem hle]; exact List.getElem_mem _)
      have := hS.free.far hx (hS.sub _ (hS.mem (show es.getD (t - 1) 0 < n by omega))) (fun e => by have := hS.inj hk (by omega) e; omega)
      omega
  have := spine_pop (g' := upd2 g (S.getD k 0 + 8) (popL (shE S es) t) (lkE (shE S es) t) (S.getD k 0)) hS.free hsp hb (fun x hx => hS.sub x (List.mem_of_mem_take hx)) hx (hS.out hk) (hS.nodup.sublist (List.take_sublist _ _)) (by simpa using ht) (fun j h1 h2 => hp j h1 (by simpa using h2)) hs h16
    (fun q q1 q2 => by unfold upd2; rw [if_neg (show ¬ q = lkE (shE S es) t from q2), if_neg q1]) (by unfold upd2; rw [if_neg hne, if_pos rfl]; rfl) (by unfold upd2; exact if_pos rfl)
  refine ⟨g, hN, _, ?_, this.2⟩
  rw [hS.takeS hk, shE_snoc, shE_take]
  exact this.1
theorem ShI.next0 {es : List Nat} {root : Nat} {nds : List Nd} {v v' : Value} {w3 : World} (hS : SOk F S n) (h : ShI w wr ab gb n S v nds es root k) (hk : k < n)
    (hp : ShP wr wq gb n S es nds k 0) (h1 : NodesAt w3 gb (nds.set k { ndI nds k with l := popL (shE S es) 0 })) (h2 : w3.heap[ab]? = some (.cells #[.int .u64 0, .int .u64 0, .int .u64 0, .int .u64 (S.getD k 0 : Nat)] 159 (0, 0))) (h3 : OwnE w3 (ab + 1) v' ab gb (es.take 0 ++ [k])) (h4 : w.grownBy w3 none) :
    ShI w w3 ab gb n S v' (nds.set k { ndI nds k with l := popL (shE S es) 0 }) (es.take 0 ++ [k]) (S.getD k 0) (k + 1) := by
  obtain ⟨g, hN, b, hsp, hb⟩ := shI_spine hS h hk (Nat.zero_le _) hp.popped (.inl rfl)
  have hst := (hN.step h.len h.offs hS.free (fun j hj => hS.sub _ (hS.mem hj)) (fun i j hi hj => hS.inj hi hj) hk (popL (shE S es) 0)).1
  refine ⟨h1, by simp [h.len], fun j hj => ?_, h2, h3, fun e he => ?_, ⟨_, b, hst, hsp, hb⟩, fun j hj1 hj2 => ?_, h4, h.at_, by simp⟩
  · rw [ndI_set nds k j _ (by rw [h.len]; exact hk)]
    split
    · rename_i e; subst e; exact h.offs k hk
    · exact h.offs j hj
  · simp at he; omega
  · rw [ndI_set nds k j _ (by rw [h.len]; exact hk), if_neg (by omega)]
    exact h.rest j (by omega) hj2
theorem ShI.nextS {es : List Nat} {root : Nat} {nds : List Nd} {v v' : Value} {w3 : World} {e : Nat} (hS : SOk F S n) (h : ShI w wr ab gb n S v nds es root k) (hk : k < n) (ht : 0 < t) (he : es.getD (t - 1) 0 = e)
    (hp : ShP wr wq gb n S es nds k t) (hr : rkN (S.getD k 0) < rkN ((shE S es).getD (t - 1) 0))
    (h1 : NodesAt w3 gb ((nds.set k { ndI nds k with l := popL (shE S es) t }).set e { ndI (nds.set k { ndI nds k with l := popL (shE S es) t }) e with r := S.getD k 0 })) (h2 : w3.heap[ab]? = some (.cells #[.int .u64 0, .int .u64 0, .int .u64 0, .int .u64 (root : Nat)] 159 (0, 0))) (h3 : OwnE w3 (ab + 1) v' ab gb (es.take t ++ [k])) (h4 : w.grownBy w3 none) :
    ShI w w3 ab gb n S v' ((nds.set k { ndI nds k with l := popL (shE S es) t }).set e { ndI (nds.set k { ndI nds k with l := popL (shE S es) t }) e with r := S.getD k 0 }) (es.take t ++ [k]) root (k + 1) := by
  obtain ⟨g, hN, b, hsp, hb⟩ := shI_spine hS h hk hp.le hp.popped (.inr hr)
  have hle : t - 1 < es.length := by have := hp.le; omega
  have hem : e ∈ es := by
    rw [← he, List.getD_eq_getElem?_getD, List.getElem?_eq_getElem hle]
    exact List.getElem_mem _
  have hek := h.ahead e hem
  have hst := (hN.step h.len h.offs hS.free (fun j hj => hS.sub _ (hS.mem hj)) (fun i j hi hj => hS.inj hi hj) hk (popL (shE S es) t)).2 e (by omega) (by omega)
  have hlk : lkE (shE S es) t = S.getD e 0 + 16 := by
    unfold lkE
    rw [if_neg (by omega), shE_get S es _ hle, he]
  rw [hlk] at hsp hb
  refine ⟨h1, by simp [h.len], fun j hj => ?_, h2, h3, fun x hx => ?_, ⟨_, b, hst, hsp, hb⟩, fun j hj1 hj2 => ?_, h4, h.at_, by have := hp.le; have := h.short; simp; omega⟩
  · rw [ndI_set _ e j _ (by simp [h.len]; omega)]
    have hbase : (ndI (nds.set k { ndI nds k with l := popL (shE S es) t }) j).o = S.getD j 0 := by
      rw [ndI_set nds k j _ (by rw [h.len]; exact hk)]
      split
      · rename_i e2; subst e2; exact h.offs k hk
      · exact h.offs j hj
    split
    · rename_i e2; subst e2; exact hbase
    · exact hbase
  · rcases List.mem_append.1 hx with hx | hx
    · have := h.ahead x (List.mem_of_mem_take hx); omega
    · have : x = k := by simpa using hx
      omega
  · rw [ndI_set _ e j _ (by simp [h.len]; omega), if_neg (by omega), ndI_set nds k j _ (by rw [h.len]; exact hk), if_neg (by omega)]
    exact h.rest j (by omega) hj2
theorem ShI.first {w3 : World} {nd : List Nd} (h : NodesAt w3 gb nd) (hgb : w.heap.size ≤ gb) (hg : w.grownBy w3 none) (hl : nd.length = n) (ho : ∀ j, j < n → (ndI nd j).o = S.getD j 0) (hz : ∀ j, j < n → (ndI nd j).l = 0 ∧ (ndI nd j).r = 0) :
    ShI w ((w3.alloc (.cells #[.int .u64 0, .int .u64 0, .int .u64 0, .int .u64 0] 159)).alloc (.cells #[.pointer (some ⟨w3.heap.size, 0, none⟩)] 203)) w3.heap.size gb n S (.slice (some ⟨w3.heap.size + 1, 0, none⟩) 1 1) nd [] 0 0 := by
  have g1 := World.grownBy_alloc w3 (.cells #[.int .u64 0, .int .u64 0, .int .u64 0, .int .u64 0] 159) none
  have g2 := World.grownBy_alloc (w3.alloc (.cells #[.int .u64 0, .int .u64 0, .int .u64 0, .int .u64 0] 159)) (.cells #[.pointer (some ⟨w3.heap.size, 0, none⟩)] 203) none
  have ha := heap_alloc_new' w3 (.cells #[.int .u64 0, .int .u64 0, .int .u64 0, .int .u64 0] 159)
  have he := heap_alloc_new' (w3.alloc (.cells #[.int .u64 0, .int .u64 0, .int .u64 0, .int .u64 0] 159)) (.cells #[.pointer (some ⟨w3.heap.size, 0, none⟩)] 203)
  rw [World.size_alloc] at he
  refine ⟨h.later (grown_trans g1 g2) (by simp), hl, ho, (g2.block _ (lt_of_block ha) (by simp)).trans ha, ⟨rfl, .inr ⟨_, 1, _, rfl, by omega, he, by simp, by unfold maxLen; omega, rfl, rfl⟩⟩, by simp, ⟨fun _ => 0, 32, ⟨rfl, fun i hi => ?_⟩, ⟨rfl, by simp⟩, rfl⟩, fun j _ hj => hz j hj, grown_trans hg (grown_trans g1 g2), ⟨hgb, h.lt⟩, Nat.le_refl _⟩
  have := hz i (by omega)
  exact ⟨this.1.symm, this.2.symm⟩
theorem ShP.at_ {es : List Nat} {nds : List Nd} {eb : Nat} {cur : Array Value} (h : ShP wr wq gb n S es nds k t) (hgb : eb ≠ gb) (heb : wr.heap[eb]? = some (.cells cur 203 (0, 0))) : wq.heap[eb]? = wr.heap[eb]? :=
  h.grown.block _ (lt_of_block heb) (by simpa using hgb)
theorem ShP.off {es : List Nat} {nds : List Nd} (h : ShP wr wq gb n S es nds k t) (hlen : nds.length = n) (ho : ∀ j, j < n → (ndI nds j).o = S.getD j 0) (hk : k < n) (j : Nat) (hj : j < n) : wq.cell? ⟨gb, j * 4 + 1, none⟩ = some (.int .u64 (S.getD j 0 : Nat)) := by
  have := (h.nodes.cell (k := j) (by simp; omega)).2.1
  have e : ((nds.set k { ndI nds k with l := popL (shE S es) t }).getD j default).o = S.getD j 0 := by
    show (ndI (nds.set k { ndI nds k with l := popL (shE S es) t }) j).o = S.getD j 0
    rw [ndI_set nds k j { ndI nds k with l := popL (shE S es) t } (by omega)]
    split
    · rename_i e; subst e; exact ho k hk
    · exact ho j hj
  rw [e] at this
  exact this
theorem ShP.later {es : List Nat} {nds : List Nd} {w5 : World} (h : ShP wr wq gb n S es nds k t) (hg : wq.grownBy w5 none) : ShP wr w5 gb n S es nds k t :=
  ⟨h.le, h.nodes.later hg (by simp), h.popped, grown_trans h.grown (grown_any hg _)⟩
theorem grown_dN (w : World) (q : Nat) : w.grownBy (w.drewN q) none := ⟨rfl, rfl, rfl, Nat.le_refl _, fun _ _ _ => rfl⟩
theorem four_put {w : World} {b : Nat} {x y z u u' : Value} {t : TypeId} (h : w.heap[b]? = some (.cells #[x, y, z, u] t (0, 0))) : (w.setCell ⟨b, 3, none⟩ u').heap[b]? = some (.cells #[x, y, z, u'] t (0, 0)) := by
  rw [heap_setCell_same h u']; rfl
end
end Go.Proofs.YtmcnpenihoaajaaGreat
namespace Go.Proofs.YtmcnpenihoaajaaGreat
open Go.RowKit
set_option maxRecDepth 100000
def Shaped (w : World) (S : List Nat) (n : Nat) (e : Ending) (w' : World) : Prop :=
  ∃ gb nds root g, e = .returned (.tuple #[.int .u64 (root : Nat), .slice (some ⟨gb, 0, none⟩) n n]) ∧ NodesAt w' gb nds ∧ nds.length = n ∧ (∀ j, j < n → (ndI nds j).o = S.getD j 0) ∧ NSay g root nds ∧ TreeOf g rkN root S ∧ w.grownBy w' none ∧ w.heap.size ≤ gb
theorem cell_of_block {w w' : World} {a : Addr} {v : Value} (hg : w.grownBy w' none) (h : w.cell? a = some v) : w'.cell? a = some v := hg.cell h (by simp)
theorem sorted_nds {z : Nat → Nat} {L : List Nat} {nds : List Nd} (hL : L.Nodup) (hp : nds.Perm (L.map fun x => ⟨z x, x, 0, 0⟩)) (hs : nds.Pairwise fun x y => ¬ ltK y.s y.o x.s x.o) :
    nds.length = (srtK z L).length ∧ (∀ j, j < (srtK z L).length → (ndI nds j).o = (srtK z L).getD j 0) ∧ ∀ j, j < (srtK z L).length → (ndI nds j).l = 0 ∧ (ndI nds j).r = 0 := by
  have hmem : ∀ x, x ∈ nds → x.s = z x.o ∧ x.l = 0 ∧ x.r = 0 := fun x hx => by
    have := hp.mem_iff.1 hx
    obtain ⟨y, _, rfl⟩ := List.mem_map.1 this
    exact ⟨rfl, rfl, rfl⟩
  have ho : (nds.map fun x => x.o).Perm L := by
    have := hp.map fun x : Nd => x.o
    rw [List.map_map] at this
    have e : ((fun x : Nd => x.o) ∘ fun x => (⟨z x, x, 0, 0⟩ : Nd)) = id := rfl
    rw [e, List.map_id] at this
    exact this
  have hrise : Rising z (nds.map fun x => x.o) := by
    unfold Rising
    rw [List.pairwise_map]
    have hnd : nds.Pairwise fun x y => x.o ≠ y.o := by
      have := ho.nodup_iff.2 hL
      unfold List.Nodup at this
      rwa [List.pairwise_map] at this
    refine (List.Pairwise.and hs hnd).imp_of_mem ?_
    intro x y hx hy ⟨h1, h2⟩
    have e1 := (hmem x hx).1
    have e2 := (hmem y hy).1
    unfold ltK at h1
    unfold blkLt keyLt
    omega
  have hsrt : srtK z L = nds.map fun x => x.o := srtK_ext hrise hL fun x => ho.mem_iff.symm
  have hlen : nds.length = (srtK z L).length := by rw [hsrt]; simp
  refine ⟨hlen, fun j hj => ?_, fun j hj => ?_⟩
  · rw [hsrt]
    unfold ndI
    rw [List.getD_eq_getElem?_getD, List.getD_eq_getElem?_getD, List.getElem?_map, List.getElem?_eq_getElem (by omega)]
    rfl
  · have := hmem (ndI nds j) (by
      unfold ndI
      rw [List.getD_eq_getElem?_getD, List.getElem?_eq_getElem (by omega)]
      exact List.getElem_mem _)
    exact this.2
section
variable {w : World} {T M : Nat} {R : Option Nat} {B D : Nat} {ws : List Nat} {l l' : List (Nat × Nat)} {z : Nat → Nat} {F S L : List Nat} {la : Option Addr} {c : Nat}
set_option maxHeartbeats 4000000 in
theorem tshape_any (h : Thinks w T M R B D ws l) (hB : Bed ws l z F) (hL : ∀ x, x ∈ L → x ∈ F) (hnd : L.Nodup) (hm : WordsAt w la L) (hlen : L.length ≤ 1000000) :
    Calls Tryz.prog 81 #[.agg #[.pointer (some ⟨T, 0, none⟩)], .slice la L.length c] w (Shaped w (srtK z L) L.length) := by
  have hkey := fun (w1 : World) (hg : w.grownBy w1 none) (x : Nat) (hx : x ∈ F) => tkey_any (h.later hg) x (by have := (hB.first hx).2; omega)
  have hS : SOk F (srtK z L) L.length := ⟨hB.free, srtK_length, fun x hx => hL x (srtK_mem.1 hx), (srtK_rising hnd).nodup⟩
  have hsort := fun (nds : List Nd) (hp : nds.Perm (L.map fun x => ⟨z x, x, 0, 0⟩)) (hs : nds.Pairwise fun x y => ¬ ltK y.s y.o x.s x.o) => sorted_nds hnd hp hs
  have hkeys := hB.keys
  have hall := ndS_all z L
  have hLF : ∀ j, j < L.length → L.getD j 0 ∈ F := fun j hj => hL _ (by rw [List.getD_eq_getElem?_getD, List.getElem?_eq_getElem hj]; exact List.getElem_mem _)
  have hmk := make_nodes L.length hlen
  have hmix := fun x w => mix_rk x w
  have hn0 : (ndS z L 0) = List.replicate L.length default := rfl
  have hndlen := ndS_len z L
  obtain ⟨S, hSe⟩ : ∃ S, srtK z L = S := ⟨_, rfl⟩
  rw [hSe] at hS hsort ⊢
  obtain ⟨n, hn⟩ : ∃ n, L.length = n := ⟨_, rfl⟩
  have HN := Lib.hid hn
  simp only [hn] at hS hLF hmk hlen hn0 hndlen hall ⊢
  have hbox : (w.alloc (.cells #[.pointer (some ⟨T, 0, none⟩)] 152)).heap[w.heap.size]? = some (.cells #[.pointer (some ⟨T, 0, none⟩)] 152 (0, 0)) := heap_alloc_new' _ _
  have hN0 : NodesAt ((w.alloc (.cells #[.pointer (some ⟨T, 0, none⟩)] 152)).alloc (.cells (cellsN (List.replicate n default)).toArray 159)) (w.heap.size + 1) (ndS z L 0) := by
    have := heap_alloc_new' (w.alloc (.cells #[.pointer (some ⟨T, 0, none⟩)] 152)) (.cells (cellsN (List.replicate n default)).toArray 159)
    rw [World.size_alloc] at this
    rw [hn0]
    exact this
  have hgA : w.grownBy ((w.alloc (.cells #[.pointer (some ⟨T, 0, none⟩)] 152)).alloc (.cells (cellsN (List.replicate n default)).toArray 159)) none := grown_trans (World.grownBy_alloc _ _ _) (World.grownBy_alloc _ _ _)
  have hbox2 : ((w.alloc (.cells #[.pointer (some ⟨T, 0, none⟩)] 152)).alloc (.cells (cellsN (List.replicate n default)).toArray 159)).heap[w.heap.size]? = some (.cells #[.pointer (some ⟨T, 0, none⟩)] 152 (0, 0)) := (Below.heap_alloc _ _ _ (by simp)).trans hbox
  have hgw : ∀ wr : World, ((w.alloc (.cells #[.pointer (some ⟨T, 0, none⟩)] 152)).alloc (.cells (cellsN (List.replicate n default)).toArray 159)).grownBy wr (some (w.heap.size + 1)) → w.grownBy wr none := fun wr hg => grown_new (grown_trans (grown_any hgA _) hg) (by omega)
  have HGW := Lib.hid hgw
  have HBX := Lib.hid hbox2
  have HN0 := Lib.hid hN0
  have HALL := Lib.hid hall
  have HLF := Lib.hid hLF
  have HNL := Lib.hid hndlen
  have HKEYS := Lib.hid hkeys
  have HS := Lib.hid hS
  have HSORT := Lib.hid hsort
  clear hbox hN0 hgA hbox2 hgw hn0 hall hn hndlen hLF hB hL h hS hsort hkeys
  go_enter Tryz.func81, Tryz.ntmps81
  go_wp2
  go_loopw [19] (fun p wr => ∃ i : Nat, i ≤ n ∧ p = .int .i64 i ∧ NodesAt wr (w.heap.size + 1) (ndS z L i) ∧ ((w.alloc (.cells #[.pointer (some ⟨T, 0, none⟩)] 152)).alloc (.cells (cellsN (List.replicate n default)).toArray 159)).grownBy wr (some (w.heap.size + 1))) (fun p _ => n - (intOf p).toNat)
  case atStart => exact ⟨0, Nat.zero_le _, rfl, HN0.out, grown_refl _ _⟩
  case round =>
    obtain ⟨i, hi, rfl, hNi, hgi⟩ := hrel
    have hgwr := HGW.out _ hgi
    have c0 := cell_of_one ((hgi.block _ (lt_of_block HBX.out) (by simp)).trans HBX.out)
    by_cases hin : i < n
    · obtain ⟨bl, off, rfl, hbl, hcs⟩ := (hm.later hgwr).cells (by rw [HN.out]; omega)
      have c1 := hcs i (by rw [HN.out]; exact hin)
      have hx := HLF.out i hin
      obtain ⟨x, ex⟩ : ∃ x, L.getD i 0 = x := ⟨_, rfl⟩
      rw [ex] at c1 hx
      have hk := hkey wr hgwr x hx
      rw [HKEYS.out x hx] at hk
      obtain ⟨zx, ezx⟩ : ∃ q, z x = q := ⟨_, rfl⟩
      rw [ezx] at hk
      have HX := Lib.hid ex
      have HZ := Lib.hid ezx
      have HNI := Lib.hid hNi
      have hin' : (i : Int) < (n : Int) := by omega
      clear hcs hkey hm ex ezx hNi
      go_wp2_with (first | (go_at_call 121; (with_reducible refine hk.mono ?_); rintro e w2 ⟨rfl, hg2⟩; have f0 := (HNI.out.later hg2 (by simp)).frozen (i * 4); have f1 := (HNI.out.later hg2 (by simp)).frozen (i * 4 + 1); obtain ⟨d0, d1, d2, d3⟩ := (HNI.out.later hg2 (by simp)).cell (by rw [HNL.out]; exact hin)))
      refine ⟨⟨i + 1, by omega, by go_num, ?_, grown_trans (grown_trans hgi (grown_any hg2 _)) (grown_trans (grown_set _ _ _ _) (grown_set _ _ _ _))⟩, by simp [intOf]; omega⟩
      have h5 := (HNI.out.later hg2 (by simp)).setK (k := i) (by rw [HNL.out]; exact hin) zx x
      unfold ndS
      rw [HX.out, HZ.out]
      exact h5
    · obtain rfl : i = n := by omega
      rw [HALL.out] at hNi
      have hso0 := sort_any hNi (by simpa [HN.out] using hlen) i
      have hln : (L.map fun x => (⟨z x, x, 0, 0⟩ : Nd)).length = i := by simp [HN.out]
      rw [hln] at hso0
      clear hm hkey hNi hln
      go_wp2_with (first | (go_at_call 122; (with_reducible refine hso0.mono ?_); rintro e w3 ⟨rfl, nd', hN3, hp3, hs3, hg3⟩))
      obtain ⟨q1, q2, q3⟩ := HSORT.out nd' hp3 hs3
      rw [HS.out.len] at q1 q2 q3
      have hF0 := ShI.first (S := S) (w := w) hN3 (by omega) (HGW.out _ (grown_trans hgi hg3)) q1 q2 q3
      have HF0 := Lib.hid hF0
      clear hso0 hN3 hp3 hs3 hg3 q1 q2 q3 hF0 c0 hgwr hgi
      obtain ⟨ab, hab⟩ : ∃ ab, w3.heap.size = ab := ⟨_, rfl⟩
      simp only [hab] at HF0 ⊢
      obtain ⟨gb, hgb⟩ : ∃ gb, w.heap.size + 1 = gb := ⟨_, rfl⟩
      simp only [hgb] at HF0 ⊢
      have HMX := Lib.hid hmix
      clear hmk hmix
      go_loopw [37, 10] (fun p v wr => ∃ (k : Nat) (nds : List Nd) (es : List Nat) (root : Nat), k ≤ i ∧ p = .int .i64 k ∧ ShI w wr ab gb i S v nds es root k) (fun p _ _ => i - (intOf p).toNat)
      case atStart => exact ⟨0, nd', [], 0, Nat.zero_le _, rfl, HF0.out⟩
      case round =>
        obtain ⟨wo, ewo⟩ : ∃ wo, wo = wr := ⟨_, rfl⟩
        obtain ⟨k, nds, es, root, hk, rfl, hI⟩ := hrel
        subst ewo
        obtain ⟨eb, cap, cur, rfl, heb1, hcap, heb, hc0, hcs⟩ := hI.edge.form
        have HI := Lib.hid hI
        have hlt2 := hI.at_
        have hshort := hI.short
        by_cases hkn : k < i
        · have hkn' : (k : Int) < (i : Int) := by omega
          have elen : IntKind.i64.wrap (((es.length + 1 : Nat) : Int) - 1) = (es.length : Nat) := by rw [IntKind.wrap_i64]; omega
          have HP0 := Lib.hid (hI.pop0 hkn)
          have HC0 := Lib.hid hc0
          have HCS := Lib.hid hcs
          have HEB := Lib.hid heb
          obtain ⟨E, hE⟩ : ∃ E, es.length = E := ⟨_, rfl⟩
          have HE := Lib.hid hE
          simp only [hE] at elen ⊢
          have hE6 : E ≤ 1000000 := by omega
          clear hI hc0 hcs heb hE
          go_wp2
          go_loopw [13] (fun p wq => ∃ t : Nat, p = .int .i64 t ∧ ShP wo wq gb i S es nds k t) (fun p _ => (intOf p).toNat)
          case atStart => exact ⟨E, by go_num, HE.out ▸ HP0.out⟩
          case round =>
            obtain ⟨t, rfl, hP⟩ := hrel
            have hEB := hP.at_ (by omega) HEB.out
            have hcell : ∀ o, wr.cell? ⟨eb, o, none⟩ = wo.cell? ⟨eb, o, none⟩ := fun o => World.cell?_of_block (a := ⟨eb, o, none⟩) hEB
            have cn := hP.off HI.out.len HI.out.offs hkn k hkn
            obtain ⟨x, hx⟩ : ∃ x, S.getD k 0 = x := ⟨_, rfl⟩
            rw [hx] at cn
            have HX := Lib.hid hx
            have HP := Lib.hid hP
            clear hx hEB hP
            rcases t with _ | u
            · have ce : wr.cell? ⟨eb, 0, none⟩ = some (.pointer (some ⟨ab, 0, none⟩)) := (hcell 0).trans HC0.out
              have hab2 := HI.out.above
              clear hcell
              go_wp2
              go_quiet (fail)
              have h5 := grown_dN wr nq
              obtain ⟨w5, e5⟩ : ∃ w5, wr.drewN nq = w5 := ⟨_, rfl⟩
              rw [e5] at h5 ⊢
              have HP5 := Lib.hid (HP.out.later h5)
              have hA5 := ((grown_trans HP.out.grown (grown_any h5 _)).block ab (lt_of_block hab2) (by simp; omega)).trans hab2
              have k0 := cell_of_block h5 ce
              have k1 := cell_of_block h5 cn
              obtain ⟨a0, a1, a2, a3⟩ := four_cells hA5
              have f3 : w5.frozen? ⟨ab, 3, none⟩ = false := by simp [World.frozen?, hA5]
              have HA5 := Lib.hid hA5
              clear hA5 ce cn hab2 h5 e5
              go_wp2
              go_region
              obtain ⟨w6, e6⟩ : ∃ w6, (w5.setCell ⟨ab, 3, none⟩ (.int .u64 (x : Nat))).drew = w6 := ⟨_, rfl⟩
              rw [e6]
              have gs : w5.grownBy w6 (some ab) := by rw [← e6]; exact grown_drew (grown_set _ _ _ _)
              have hA6 : w6.heap[ab]? = some (.cells #[.int .u64 0, .int .u64 0, .int .u64 0, .int .u64 (x : Nat)] 159 (0, 0)) := by
                rw [← e6]; exact four_put HA5.out
              have hN6 := HP5.out.nodes.later gs (by simp; omega)
              have hO6 : OwnE w6 (ab + 1) (.slice (some ⟨eb, 0, none⟩) (0 + 1) cap) ab gb (es.take 0) :=
                OwnE.take (World.ownsRow.kept (World.ownsRow.kept HI.out.edge HP5.out.grown (.inr (by simp [Value.ownBlock]; omega))) gs (.inr (by simp [Value.ownBlock]; omega))) 0 (Nat.zero_le _)
              unfold OwnE at hO6
              rw [show (es.take 0).length = 0 by simp] at hO6
              have hg6 : w.grownBy w6 none := grown_new (grown_trans (grown_any (grown_new (grown_trans (grown_any HI.out.grown _) HP5.out.grown) hlt2.1) _) gs) (by omega)
              have HO6 := Lib.hid hO6
              have HA6 := Lib.hid hA6
              have HN6 := Lib.hid hN6
              have hsz6 := lt_of_block hA6
              have hcap0 : (1 : Int) ≤ (cap : Int) := by omega
              clear hA6 hN6 hO6 a0 a1 a2 a3 k0 k1 f3 e6 gs
              go_wp2_with (first | (at_builtin; go_must (refine wpList_append_nptr rfl _ _ rfl (ab + 1) (.slice (some ⟨eb, 0, none⟩) (0 + 1) cap) (0 + 1) _ rfl HO6.out _ rfl (by omega) (by omega) ?_); intro v' w8 hown8 hg8 hloc))
              have ga := World.grownBy_alloc w6 (.cells #[.pointer (some ⟨gb, k * 4, none⟩)] 203) none
              have g8 : w6.grownBy w8 (some eb) := grown_trans (grown_any ga _) hg8
              have hN8 := HN6.out.later g8 (by simp; omega)
              have hA8 := (g8.block ab (lt_of_block HA6.out) (by simp; omega)).trans HA6.out
              have hg88 : w.grownBy w8 none := grown_new (grown_trans (grown_any hg6 _) g8) (by omega)
              have hO8 : OwnE w8 (ab + 1) v' ab gb (es.take 0 ++ [k]) := by
                unfold OwnE
                rw [← ptrs_snoc]
                simpa using hown8
              have hpop := HP5.out
              refine ⟨⟨k + 1, _, _, _, by omega, by go_num, HI.out.next0 HS.out hkn hpop hN8 (by rw [HX.out]; exact hA8) hO8 hg88⟩, by simp [intOf]; omega⟩
            · have hu : u < es.length := by have := HP.out.le; omega
              have huE : (u : Int) + 1 < (E : Int) + 1 := by have := HE.out; omega
              have huE2 : (u : Int) < (E : Int) := by have := HE.out; omega
              have hu0 : (0 : Int) < (u : Int) + 1 := by omega
              have ce := (hcell (u + 1)).trans (HCS.out u hu)
              obtain ⟨e, he⟩ : ∃ e, es.getD u 0 = e := ⟨_, rfl⟩
              rw [he] at ce
              have hek : e < k := HI.out.ahead e (by rw [← he, List.getD_eq_getElem?_getD, List.getElem?_eq_getElem hu]; exact List.getElem_mem _)
              have co := HP.out.off HI.out.len HI.out.offs hkn e (by omega)
              obtain ⟨y, hy⟩ : ∃ y, S.getD e 0 = y := ⟨_, rfl⟩
              rw [hy] at co
              have HY := Lib.hid (show (shE S es).getD u 0 = y by rw [shE_get S es u hu, he, hy])
              have HEE := Lib.hid he
              clear hcell he hy
              by_cases hr : rkN y < rkN x
              · have hr' : ((rkN y : Nat) : Int) < (rkN x : Nat) := by omega
                go_wp2
                go_quiet (first | (go_at_call 78; exact Calls.quiet_of_same ((HMX.out _ _).mono fun e w' ⟨h1, h2⟩ => ⟨h1, h2.symm⟩)))
                have h5 := grown_dN wr nq
                obtain ⟨w5, e5⟩ : ∃ w5, wr.drewN nq = w5 := ⟨_, rfl⟩
                rw [e5] at h5 ⊢
                have HP5 := Lib.hid (HP.out.later h5)
                have k0 := cell_of_block h5 ce
                have k1 := cell_of_block h5 cn
                have k2 := cell_of_block h5 co
                obtain ⟨_, _, k3, _⟩ := HP5.out.nodes.cell (k := k) (by simp [HI.out.len]; omega)
                have f3 := HP5.out.nodes.frozen (k * 4 + 2)
                clear ce cn co h5 e5
                go_wp2
                refine ⟨⟨u, by go_num, ?_⟩, by simp [intOf]⟩
                have := HP5.out.pop HI.out.len hkn (by omega) (by rw [Nat.add_sub_cancel, HY.out, HX.out]; exact hr)
                rw [Nat.add_sub_cancel, HY.out] at this
                exact this
              · have hr' : ¬ ((rkN y : Nat) : Int) < (rkN x : Nat) := by omega
                go_wp2
                go_quiet (first | (go_at_call 78; exact Calls.quiet_of_same ((HMX.out _ _).mono fun e w' ⟨h1, h2⟩ => ⟨h1, h2.symm⟩)))
                have h5 := grown_dN wr nq
                obtain ⟨w5, e5⟩ : ∃ w5, wr.drewN nq = w5 := ⟨_, rfl⟩
                rw [e5] at h5 ⊢
                have HP5 := Lib.hid (HP.out.later h5)
                have k0 := cell_of_block h5 ce
                have k1 := cell_of_block h5 cn
                have k2 := cell_of_block h5 co
                obtain ⟨_, _, _, k3⟩ := HP5.out.nodes.cell (k := e) (by simp [HI.out.len]; omega)
                have f3 := HP5.out.nodes.frozen (e * 4 + 3)
                clear ce cn co h5 e5
                go_wp2
                go_region
                have hrk : rkN x < rkN y := by
                  rcases Nat.lt_or_ge (rkN x) (rkN y) with h1 | h1
                  · exact h1
                  · have h2 : rkN x = rkN y := by omega
                    have hxF := HS.out.sub _ (HS.out.mem hkn)
                    have hyF := HS.out.sub _ (HS.out.mem (show e < i by omega))
                    have hye : S.getD e 0 = y := by rw [← HY.out, shE_get S es u hu, HEE.out]
                    rw [HX.out] at hxF
                    rw [hye] at hyF
                    have b1 := HS.out.free.on x hxF
                    have b2 := HS.out.free.on y hyF
                    have h3 := rkN_inj (by omega) (by omega) h2
                    have := HS.out.inj hkn (show e < i by omega) (by rw [HX.out, hye, h3])
                    omega
                obtain ⟨w6, e6⟩ : ∃ w6, (w5.setCell ⟨gb, e * 4 + 3, none⟩ (.int .u64 (x : Nat))).drew = w6 := ⟨_, rfl⟩
                rw [e6]
                have gs : w5.grownBy w6 (some gb) := by rw [← e6]; exact grown_drew (grown_set _ _ _ _)
                have hN6 := ((HP5.out.nodes.setR (k := e) (by simp [HI.out.len]; omega) x).later (grown_drew (grown_refl _ none)) (by simp) : NodesAt _ gb _)
                rw [e6] at hN6
                have hab2 := HI.out.above
                have hA6 := ((grown_trans HP5.out.grown gs).block ab (lt_of_block hab2) (by simp; omega)).trans hab2
                have hO6 : OwnE w6 (ab + 1) (.slice (some ⟨eb, 0, none⟩) (u + 1 + 1) cap) ab gb (es.take (u + 1)) :=
                  OwnE.take (World.ownsRow.kept (World.ownsRow.kept HI.out.edge HP5.out.grown (.inr (by simp [Value.ownBlock]; omega))) gs (.inr (by simp [Value.ownBlock]; omega))) (u + 1) (by omega)
                unfold OwnE at hO6
                rw [show (es.take (u + 1)).length = u + 1 by simp; omega] at hO6
                have hg6 : w.grownBy w6 none := grown_new (grown_trans (grown_any (grown_new (grown_trans (grown_any HI.out.grown _) HP5.out.grown) hlt2.1) _) gs) (by omega)
                have HO6 := Lib.hid hO6
                have HA6 := Lib.hid hA6
                have HN6 := Lib.hid hN6
                have hsz6 := lt_of_block hA6
                have hcap0 : (u : Int) + 1 + 1 ≤ (cap : Int) := by have := HE.out; omega
                have ew2 : IntKind.i64.wrap ((u : Int) + 1 + 1) = (u : Int) + 1 + 1 := by rw [IntKind.wrap_i64]; omega
                clear hA6 hN6 hO6 k0 k1 k2 k3 f3 e6 gs hab2
                go_wp2_with (first | (at_builtin; go_must (refine wpList_append_nptr rfl _ _ rfl (ab + 1) (.slice (some ⟨eb, 0, none⟩) ((u + 1) + 1) cap) ((u + 1) + 1) _ rfl HO6.out _ rfl (by omega) (by omega) ?_); intro v' w8 hown8 hg8 hloc))
                have ga := World.grownBy_alloc w6 (.cells #[.pointer (some ⟨gb, k * 4, none⟩)] 203) none
                have g8 : w6.grownBy w8 (some eb) := grown_trans (grown_any ga _) hg8
                have hN8 := HN6.out.later g8 (by simp; omega)
                have hA8 := (g8.block ab (lt_of_block HA6.out) (by simp; omega)).trans HA6.out
                have hg88 : w.grownBy w8 none := grown_new (grown_trans (grown_any hg6 _) g8) (by omega)
                have hO8 : OwnE w8 (ab + 1) v' ab gb (es.take (u + 1) ++ [k]) := by
                  have hlt' : (es.take (u + 1)).length = u + 1 := by simp; omega
                  unfold OwnE
                  rw [← ptrs_snoc, List.length_append, hlt']
                  exact hown8
                refine ⟨⟨k + 1, _, _, _, by omega, by go_num, HI.out.nextS (e := e) (t := u + 1) HS.out hkn (by omega) (by rw [Nat.add_sub_cancel]; exact HEE.out) HP5.out (by rw [Nat.add_sub_cancel, HY.out, HX.out]; exact hrk) (by rw [HX.out]; exact hN8) hA8 hO8 hg88⟩, by simp [intOf]; omega⟩
        · obtain rfl : k = i := by omega
          have hA := HI.out.above
          obtain ⟨a0, a1, a2, a3⟩ := four_cells hA
          clear hc0 hcs hA
          go_wp2
          refine bodyPost_ret (v := .tuple #[.int .u64 (root : Nat), .slice (some ⟨gb, 0, none⟩) k k]) (by simp [results, Tryz.results81, go_sem]) rfl ?_
          obtain ⟨g, b, q1, q2, q3⟩ := HI.out.spine
          refine ⟨gb, nds, root, g, rfl, HI.out.nodes, HI.out.len, HI.out.offs, q1, ?_, HI.out.grown, HI.out.at_.1⟩
          have h9 := q2.close (m := []) (by rw [q3]; exact TreeOf.nil) (by simp)
          rw [List.append_nil, q1.root, List.take_of_length_le (by rw [HS.out.len]; exact Nat.le_refl _)] at h9
          exact h9
end
end Go.Proofs.YtmcnpenihoaajaaGreat
