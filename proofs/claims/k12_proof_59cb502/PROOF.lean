import PyProof.Rows.All
import Wide.All
import OpenK.AllK
import Wide.FinOn
import Lean
import PyProof.EqAt
import PyProof.EqKinds
import PyProof.TupleCall
import KE.KSortAsk
import PySem.Str
import PySem.Eval
import PySem.Challenge.RW_markedties_k12_refusals_apart
set_option linter.all false
namespace MT
abbrev Tie := Int × Int
def gstep (g : List Int) (t : Tie) : List Int := g.map fun x => if x = g.getD t.2.toNat 0 then g.getD t.1.toNat 0 else x
def g0 (n : Nat) : List Int := (List.range n).map fun k : Nat => (k : Int)
def groups (n : Nat) (ts : List Tie) : List Int := ts.foldl gstep (g0 n)
def isWhole (n : Nat) (ts : List Tie) : Bool := (groups n ts).count ((groups n ts).getD 0 0) == n
def InR (n : Nat) (t : Tie) : Prop := 0 ≤ t.1 ∧ t.1 < t.2 ∧ t.2 < (n : Int)
instance (n t) : Decidable (InR n t) := by unfold InR; infer_instance
inductive Conn (ts : List Tie) : Int → Int → Prop
  | refl (i : Int) : Conn ts i i
  | step {i j k : Int} : Conn ts i j → ((j,k) ∈ ts ∨ (k,j) ∈ ts) → Conn ts i k
def comeTie (come : List Int) (t : Tie) : List Int :=
  if t.1 ∈ come ∧ t.2 ∉ come then come ++ [t.2] else if t.2 ∈ come ∧ t.1 ∉ come then come ++ [t.1] else come
def lap (ts : List Tie) (come : List Int) : List Int := ts.foldl comeTie come
def laps (ts : List Tie) : Nat → List Int
  | 0 => [0]
  | k + 1 => lap ts (laps ts k)
structure Come (n : Nat) (ts : List Tie) (c : List Int) : Prop where
  nd : c.Nodup
  rg : ∀ x ∈ c,0 ≤ x ∧ x < (n : Int)
  rc : ∀ x ∈ c,Conn ts x 0
  z : 0 ∈ c
end MT
namespace MT
def tlt (a b : Tie) : Prop := a.1 < b.1 ∨ (a.1 = b.1 ∧ a.2 < b.2)
def tle (a b : Tie) : Prop := a.1 < b.1 ∨ (a.1 = b.1 ∧ a.2 ≤ b.2)
instance (a b) : Decidable (tlt a b) := by unfold tlt; infer_instance
instance (a b) : Decidable (tle a b) := by unfold tle; infer_instance
theorem tlt_irrefl (a : Tie) : ¬ tlt a a := fun h => h.elim (Int.lt_irrefl _) fun z => Int.lt_irrefl _ z.2
theorem tlt_trans {a b c : Tie} (h : tlt a b) (k : tlt b c) : tlt a c := by
  rcases h with h | ⟨h1,h2⟩ <;> rcases k with k | ⟨k1,k2⟩
  · exact .inl (Int.lt_trans h k)
  · exact .inl (by rw [← k1]; exact h)
  · exact .inl (by rw [h1]; exact k)
  · exact .inr ⟨h1.trans k1,Int.lt_trans h2 k2⟩
theorem tlt.le {a b : Tie} (h : tlt a b) : tle a b := h.imp id fun z => ⟨z.1,Int.le_of_lt z.2⟩
theorem tle_antisymm {a b : Tie} (h : tle a b) (k : tle b a) : a = b := by
  obtain ⟨a1,a2⟩ := a; obtain ⟨b1,b2⟩ := b
  unfold tle at h k; dsimp only at h k
  have e1 : a1 = b1 := by lia
  have e2 : a2 = b2 := by lia
  rw [e1,e2]
abbrev Rising (ts : List Tie) : Prop := ts.Pairwise tlt
def Each (k : Nat) (names : List Int) : Prop := names.Perm (g0 k)
def tieOf (x y : Int) : Tie := (min x y,max x y)
def Order (n : Nat) (ts : List Tie) : Prop := ∃ names us,Each n names ∧ ts.Perm us ∧ ∀ j,j + 1 < n → ∃ e x y,e ≤ j ∧ names[j + 1]? = some x ∧ names[e]? = some y ∧ us[j]? = some (tieOf x y)
structure Valid (n : Nat) (ts : List Tie) : Prop where
  pos : 0 < n
  len : ts.length + 1 = n
  rg : ∀ t ∈ ts,InR n t
  ris : Rising ts
  whole : isWhole n ts = true
structure VT (n : Nat) (ts : List Tie) : Prop extends Valid n ts where
  ord : Order n ts
structure Grown (n : Nat) (names : List Int) (k : Nat) (us : List Tie) : Prop where
  pos : 0 < k
  len : us.length + 1 = k
  rg : ∀ t ∈ us,InR n t
  ends : ∀ t ∈ us,∀ i,k ≤ i → ∀ x,names[i]? = some x → t.1 ≠ x ∧ t.2 ≠ x
  nd : us.Nodup
  conn : ∀ i,i < k → ∀ x z,names[i]? = some x → names[0]? = some z → Conn us x z
  nth : ∀ j,j + 1 < k → ∃ e x y,e ≤ j ∧ names[j + 1]? = some x ∧ names[e]? = some y ∧ us[j]? = some (tieOf x y)
end MT
namespace MT
theorem sorted_eq : ∀ {l l' : List Int},l.Perm l' → l.Pairwise (· ≤ ·) → l'.Pairwise (· ≤ ·) → l = l'
  | [],l',p,_,_ => by rw [List.Perm.eq_nil p.symm]
  | a :: l,l',p,h,h' => by
    cases l' with
    | nil => exact absurd (List.Perm.eq_nil p) (by simp)
    | cons b l' =>
      have ha := (List.pairwise_cons.mp h).1
      have hb := (List.pairwise_cons.mp h').1
      have e : a = b := by
        have m1 : a ∈ b :: l' := (List.Perm.mem_iff p).mp (by simp)
        have m2 : b ∈ a :: l := (List.Perm.mem_iff p).mpr (by simp)
        rcases List.mem_cons.mp m1 with e | m1
        · exact e
        · rcases List.mem_cons.mp m2 with e | m2
          · exact e.symm
          · have := ha b m2; have := hb a m1; lia
      subst e
      rw [sorted_eq (List.Perm.cons_inv p) (List.pairwise_cons.mp h).2 (List.pairwise_cons.mp h').2]
instance (n ns) : Decidable (Each n ns) := by unfold Each; infer_instance
def absI (i : Int) : Int := if i < 0 then -i else i
def diff (m : List Int) (t : Tie) : Int := absI (m.getD t.1.toNat 0 - m.getD t.2.toNat 0)
def diffs (m : List Int) (ts : List Tie) : List Int := ts.map (diff m)
def g1 (n : Nat) : List Int := (List.range (n - 1)).map fun k : Nat => (1 : Int) + (k : Int)
end MT
namespace MT
def risingB : List Tie → Bool
  | [] => true
  | [_] => true
  | a :: b :: r => decide (tlt a b) && risingB (b :: r)
def steps (ts : List Tie) : List Bool := (List.range (ts.length - 1)).map fun k => decide (tlt (ts.getD k (0,0)) (ts.getD (k + 1) (0,0)))
def lower (ts : List Tie) (p : Int) : List Int := (ts.filter fun t => decide (t.2 = p)).map (·.1)
def higher (ts : List Tie) (p : Int) : List Int := (ts.filter fun t => decide (t.1 = p)).map (·.2)
def beside (ts : List Tie) (p : Int) : List Int := (ts.filter fun t => decide (t.1 = p) || decide (t.2 = p)).map fun t => t.1 + t.2 - p
def okTree (many : Int) (ts : List Tie) : Bool :=
  (decide (1 ≤ many) && decide (many ≤ 12)) && decide ((ts.length : Int) = many - 1) && ts.all (fun t => decide (InR many.toNat t)) && risingB ts && isWhole many.toNat ts
end MT
namespace MT
def cnt (m : List Int) : Nat := m.countP fun x => decide (0 ≤ x)
structure Zig (n : Nat) (m : List Int) (low high turn : Int) : Prop where
  len : m.length = n
  lo : 1 ≤ low
  tn : turn = 0 ∨ turn = 1
  eq : (cnt m : Int) = low + ((n : Int) - 1 - high)
end MT
namespace MT
open PySem PySem.W PyProof.Rows
def KOk {α : Type} (n : Nat) (lt : Nat → Nat → Bool) : KasT α → (α → Prop) → Prop
  | .ret a,Q => Q a
  | .ask i j k,Q => i < n ∧ j < n ∧ KOk n lt (k (lt i j)) Q
theorem KOk.bind {α β : Type} {n : Nat} {lt : Nat → Nat → Bool} {f : α → KasT β} {Q : β → Prop} : ∀ {t : KasT α},KOk n lt t (fun a => KOk n lt (f a) Q) → KOk n lt (t.bind f) Q
  | .ret _,h => h
  | .ask _ _ _,⟨h1,h2,h3⟩ => ⟨h1,h2,KOk.bind h3⟩
theorem KOk.mono {α : Type} {n : Nat} {lt : Nat → Nat → Bool} {Q Q' : α → Prop} (hq : ∀ a,Q a → Q' a) : ∀ {t : KasT α},KOk n lt t Q → KOk n lt t Q'
  | .ret _,h => hq _ h
  | .ask _ _ _,⟨h1,h2,h3⟩ => ⟨h1,h2,KOk.mono hq h3⟩
section
variable {n : Nat} {r : Nat → Int}
def POk (n : Nat) (p : Array Nat) : Prop := p.toList.Perm (List.range n)
theorem POk.size {p : Array Nat} (h : POk n p) : p.size = n := by
  have := h.length_eq
  simpa using this
theorem POk.lt {p : Array Nat} (h : POk n p) {i : Nat} (hi : i < n) : p.getD i 0 < n := by
  have hs := h.size
  have e : p.getD i 0 = p[i]'(by omega) := by simp [Array.getD,hs,hi]
  rw [e]
  have hm : p[i]'(by omega) ∈ p.toList := by simp
  have := (h.mem_iff).mp hm
  simpa using this
theorem POk.of_perm {p q : Array Nat} (h : POk n p) (hp : q.Perm p) : POk n q := (Array.perm_iff_toList_perm.mp hp).trans h
def rk (r : Nat → Int) (p : Array Nat) (i : Nat) : Int := r (p.getD i 0)
def Srt (r : Nat → Int) (p : Array Nat) (k : Nat) : Prop := ∀ i j,i ≤ j → j < k → rk r p i ≤ rk r p j
def NInc (r : Nat → Int) (p : Array Nat) (k : Nat) : Prop := ∀ i j,i ≤ j → j < k → rk r p j ≤ rk r p i
abbrev ltR (r : Nat → Int) (i j : Nat) : Bool := decide (r i < r j)
theorem rk_congr {p q : Array Nat} {i j : Nat} (h : p[i]? = q[j]?) : rk r p i = rk r q j := by
  unfold rk
  have : p.getD i 0 = q.getD j 0 := by simp only [Array.getD_eq_getD_getElem?,h]
  rw [this]
theorem rev_perm (p : Array Nat) (i j : Nat) : (kas_rev p i j).Perm p := mirror_perm _ _ _ _
theorem rk_rev {p : Array Nat} {i j : Nat} (hj : j ≤ p.size) (k : Nat) : rk r (kas_rev p i j) k = if i ≤ k ∧ k < j then rk r p (i + j - 1 - k) else rk r p k := by
  have e := getElem?_mirror_all (i:=i) hj k
  unfold kas_rev
  by_cases h : i ≤ k ∧ k < j
  · rw [if_pos h] at e ⊢; exact rk_congr e
  · rw [if_neg h] at e ⊢; exact rk_congr e
theorem rk_bubble {p : Array Nat} {src d : Nat} (hs : src < p.size) (hd : d ≤ src) (k : Nat) :
    rk r (bubble p src d) k = if k = src - d then rk r p src else if src - d < k ∧ k ≤ src then rk r p (k - 1) else rk r p k := by
  have e := getElem?_bubble hs d hd k
  by_cases h1 : k = src - d
  · rw [if_pos h1] at e ⊢; exact rk_congr e
  · rw [if_neg h1] at e ⊢
    by_cases h2 : src - d < k ∧ k ≤ src
    · rw [if_pos h2] at e ⊢; exact rk_congr e
    · rw [if_neg h2] at e ⊢; exact rk_congr e
theorem rk_rev_eq {p : Array Nat} {i j : Nat} (hj : j ≤ p.size) (he : ∀ k,i ≤ k → k < j → rk r p k = rk r p (j - 1)) (k : Nat) : rk r (kas_rev p i j) k = rk r p k := by
  rw [rk_rev hj]
  split
  · rw [he _ (by omega) (by omega),he k (by omega) (by omega)]
  · rfl
theorem ok_asc {p : Array Nat} (hp : POk n p) : ∀ (f m : Nat),1 ≤ m → m + f = n → Srt r p m → KOk n (ltR r) (kas_asc p f m) fun k => m ≤ k ∧ k ≤ n ∧ Srt r p k ∧ (k < n → rk r p k < rk r p (k - 1))
  | 0,m,h1,h2,hs => ⟨Nat.le_refl _,by omega,hs,fun h => by omega⟩
  | f + 1,m,h1,h2,hs => by
    refine ⟨hp.lt (by omega),hp.lt (by omega),?_⟩
    by_cases c : r (p.getD m 0) < r (p.getD (m - 1) 0)
    · rw [show ltR r (p.getD m 0) (p.getD (m - 1) 0) = true from decide_eq_true c]
      dsimp only
      rw [if_pos rfl]
      exact ⟨Nat.le_refl _,by omega,hs,fun _ => c⟩
    · rw [show ltR r (p.getD m 0) (p.getD (m - 1) 0) = false from decide_eq_false c]
      dsimp only
      rw [if_neg Bool.false_ne_true]
      refine KOk.mono (fun k h => ⟨by lia,h.2⟩) (ok_asc hp f (m + 1) (by lia) (by omega) ?_)
      intro i j hij hj
      by_cases hjm : j < m
      · exact hs i j hij hjm
      · have : j = m := by lia
        subst this
        by_cases hi : i = j
        · subst hi; exact Int.le_refl _
        · have h3 := hs i (j - 1) (by lia) (by omega)
          have h4 : rk r p (j - 1) ≤ rk r p j := by unfold rk; omega
          exact Int.le_trans h3 h4
def Alike (r : Nat → Int) (p : Array Nat) (m q : Nat) : Prop := q + 1 ≤ m ∧ ∀ k,m - (q + 1) ≤ k → k < m → rk r p k = rk r p (m - 1)
theorem NInc.congr {p q : Array Nat} {m : Nat} (h : NInc r p m) (e : ∀ k,rk r q k = rk r p k) : NInc r q m := fun i j hij hj => by rw [e,e]; exact h i j hij hj
theorem NInc.more {p : Array Nat} {m : Nat} (h : NInc r p m) (h1 : 1 ≤ m) (e : rk r p m ≤ rk r p (m - 1)) : NInc r p (m + 1) := fun i j hij hj => by
  by_cases hjm : j < m
  · exact h i j hij hjm
  · have : j = m := by lia
    subst this
    by_cases hi : i = j
    · subst hi; exact Int.le_refl _
    · exact Int.le_trans e (h i (j - 1) (by omega) (by omega))
theorem ok_desc : ∀ (f : Nat) (p : Array Nat) (m q : Nat),POk n p → 1 ≤ m → m + f = n → NInc r p m → Alike r p m q →
    KOk n (ltR r) (kas_desc f p m q) fun a => POk n a.1 ∧ 1 ≤ a.2.1 ∧ a.2.1 ≤ n ∧ NInc r a.1 a.2.1 ∧ Alike r a.1 a.2.1 a.2.2
  | 0,p,m,q,hp,h1,h2,hn,ha => ⟨hp,h1,(by show m ≤ n; omega),hn,ha⟩
  | f + 1,p,m,q,hp,h1,h2,hn,ha => by
    refine ⟨hp.lt (by omega),hp.lt (by omega),?_⟩
    by_cases c : r (p.getD m 0) < r (p.getD (m - 1) 0)
    · rw [show ltR r (p.getD m 0) (p.getD (m - 1) 0) = true from decide_eq_true c]
      dsimp only
      rw [if_pos rfl]
      have c' : rk r p m < rk r p (m - 1) := c
      by_cases hq : q > 0
      · rw [if_pos hq]
        have e := rk_rev_eq (r:=r) (p:=p) (i:=m - (q + 1)) (j:=m) (by rw [hp.size]; omega) ha.2
        refine ok_desc f _ (m + 1) 0 (hp.of_perm (rev_perm _ _ _)) (by omega) (by omega) ?_ ⟨by omega,fun k h3 h4 => by rw [show k = m + 1 - 1 by omega]⟩
        exact (hn.more h1 (Int.le_of_lt c')).congr e
      · rw [if_neg hq]
        exact ok_desc f p (m + 1) 0 hp (by omega) (by omega) (hn.more h1 (Int.le_of_lt c')) ⟨by omega,fun k h3 h4 => by rw [show k = m + 1 - 1 by omega]⟩
    · rw [show ltR r (p.getD m 0) (p.getD (m - 1) 0) = false from decide_eq_false c]
      dsimp only
      rw [if_neg Bool.false_ne_true]
      refine ⟨hp.lt (by omega),hp.lt (by omega),?_⟩
      by_cases d : r (p.getD (m - 1) 0) < r (p.getD m 0)
      · rw [show ltR r (p.getD (m - 1) 0) (p.getD m 0) = true from decide_eq_true d]
        dsimp only
        rw [if_pos rfl]
        exact ⟨hp,h1,(by show m ≤ n; omega),hn,ha⟩
      · rw [show ltR r (p.getD (m - 1) 0) (p.getD m 0) = false from decide_eq_false d]
        dsimp only
        rw [if_neg Bool.false_ne_true]
        have e : rk r p m = rk r p (m - 1) := by unfold rk; omega
        refine ok_desc f p (m + 1) (q + 1) hp (by lia) (by omega) (hn.more h1 (Int.le_of_eq e)) ⟨by have := ha.1; lia,fun k h3 h4 => ?_⟩
        rw [show m + 1 - 1 = m by lia]
        by_cases hk : k = m
        · rw [hk]
        · rw [e]; exact ha.2 k (by lia) (by lia)
abbrev CountOk (n : Nat) (r : Nat → Int) (a : Nat × Array Nat) : Prop := POk n a.2 ∧ 1 ≤ a.1 ∧ a.1 ≤ n ∧ Srt r a.2 a.1
theorem srt_rev {p : Array Nat} (hp : POk n p) {m : Nat} (h1 : 1 ≤ m) (hm : m ≤ n) (hn : NInc r p m) : Srt r (kas_rev p 0 m) m := fun i j hij hj => by
  rw [rk_rev (by rw [hp.size]; exact hm),rk_rev (by rw [hp.size]; exact hm),if_pos (by lia),if_pos (by omega)]
  exact hn _ _ (by omega) (by omega)
theorem ok_tail3 {p : Array Nat} (hp : POk n p) {m : Nat} (h1 : 1 ≤ m) (hm : m ≤ n) (hn : NInc r p m) : KOk n (ltR r) (kas_tail3 m n p) (CountOk n r) := by
  unfold kas_tail3
  have hp' : POk n (kas_rev p 0 m) := hp.of_perm (rev_perm _ _ _)
  exact KOk.bind (KOk.mono (fun k h => ⟨hp',by omega,h.2.1,h.2.2.1⟩) (ok_asc hp' (n - m) m h1 (by omega) (srt_rev hp h1 hm hn)))
theorem ok_descPart {p : Array Nat} (hp : POk n p) {m : Nat} (h1 : 1 ≤ m) (hm : m < n) (hn : NInc r p m) (hlt : rk r p m < rk r p (m - 1)) : KOk n (ltR r) (kas_descPart m n p) (CountOk n r) := by
  unfold kas_descPart
  refine KOk.bind (KOk.mono (fun a h => ?_) (ok_desc (n - (m + 1)) p (m + 1) 0 hp (by lia) (by omega) (hn.more h1 (Int.le_of_lt hlt)) ⟨by lia,fun k h3 h4 => by rw [show k = m + 1 - 1 by lia]⟩))
  obtain ⟨g1,g2,g3,g4,g5⟩ := h
  by_cases hq : a.2.2 > 0
  · rw [if_pos hq]
    have e := rk_rev_eq (r:=r) (p:=a.1) (i:=a.2.1 - (a.2.2 + 1)) (j:=a.2.1) (by rw [g1.size]; exact g3) g5.2
    exact ok_tail3 (g1.of_perm (rev_perm _ _ _)) g2 g3 (g4.congr e)
  · rw [if_neg hq]
    exact ok_tail3 g1 g2 g3 g4
theorem ok_count {p : Array Nat} (hp : POk n p) (h2 : 1 ≤ n) : KOk n (ltR r) (kas_count n p) (CountOk n r) := by
  unfold kas_count
  have s1 : Srt r p 1 := fun i j hij hj => by have : i = j := by lia
                                              subst this; exact Int.le_refl _
  refine KOk.bind (KOk.mono (fun m h => ?_) (ok_asc hp (n - 1) 1 (Nat.le_refl _) (by omega) s1))
  obtain ⟨g1,g2,g3,g4⟩ := h
  by_cases e : (m == n) = true
  · rw [if_pos e]
    exact ⟨hp,g1,g2,g3⟩
  · rw [if_neg e]
    have hmn : m < n := by have : m ≠ n := by simpa using e
                           omega
    have one : m = 1 → NInc r p m := by
      intro e i j hij hj
      have : i = j := by lia
      subst this
      exact Int.le_refl _
    by_cases hm : m > 1
    · rw [if_pos hm]
      refine ⟨hp.lt (by omega),hp.lt (by omega),?_⟩
      by_cases c : r (p.getD 0 0) < r (p.getD (m - 1) 0)
      · rw [show ltR r (p.getD 0 0) (p.getD (m - 1) 0) = true from decide_eq_true c]
        dsimp only
        rw [if_pos rfl]
        exact ⟨hp,g1,g2,g3⟩
      · rw [show ltR r (p.getD 0 0) (p.getD (m - 1) 0) = false from decide_eq_false c]
        dsimp only
        rw [if_neg Bool.false_ne_true]
        have c' : rk r p (m - 1) ≤ rk r p 0 := by unfold rk; omega
        have all : ∀ k,0 ≤ k → k < m → rk r p k = rk r p (m - 1) := fun k _ hk => by
          have h5 := g3 0 k (by omega) hk
          have h6 := g3 k (m - 1) (by omega) (by omega)
          lia
        have e2 := rk_rev_eq (r:=r) (p:=p) (i:=0) (j:=m) (by rw [hp.size]; omega) all
        refine ok_descPart (hp.of_perm (rev_perm _ _ _)) g1 hmn (fun i j hij hj => ?_) ?_
        · rw [e2,e2,all i (by lia) (by omega),all j (by lia) hj]; exact Int.le_refl _
        · rw [e2,e2]; exact g4 hmn
    · rw [if_neg hm]
      exact ok_descPart hp g1 hmn (one (by lia)) (g4 hmn)
theorem ok_place {p : Array Nat} (hp : POk n p) {k : Nat} (hk : k < n) (hs : Srt r p k) : ∀ (f a b : Nat),a ≤ b → b ≤ k → b - a ≤ f → (∀ i,i < a → rk r p i ≤ rk r p k) → (∀ i,b ≤ i → i < k → rk r p k < rk r p i) →
    KOk n (ltR r) (kas_place p k f a b) fun l => l ≤ k ∧ (∀ i,i < l → rk r p i ≤ rk r p k) ∧ ∀ i,l ≤ i → i < k → rk r p k < rk r p i
  | 0,a,b,h1,h2,h3,lo,hi => ⟨by lia,lo,fun i h4 h5 => hi i (by omega) h5⟩
  | f + 1,a,b,h1,h2,h3,lo,hi => by
    unfold kas_place
    by_cases e : a ≥ b
    · rw [if_pos e]
      exact ⟨by lia,lo,fun i h4 h5 => hi i (by lia) h5⟩
    · rw [if_neg e]
      refine ⟨hp.lt hk,hp.lt (by omega),?_⟩
      by_cases c : r (p.getD k 0) < r (p.getD ((a + b) / 2) 0)
      · rw [show ltR r (p.getD k 0) (p.getD ((a + b) / 2) 0) = true from decide_eq_true c]
        dsimp only
        rw [if_pos rfl]
        refine ok_place hp hk hs f a ((a + b) / 2) (by omega) (by omega) (by omega) lo fun i h4 h5 => ?_
        have c' : rk r p k < rk r p ((a + b) / 2) := c
        exact Int.lt_of_lt_of_le c' (hs _ _ h4 h5)
      · rw [show ltR r (p.getD k 0) (p.getD ((a + b) / 2) 0) = false from decide_eq_false c]
        dsimp only
        rw [if_neg Bool.false_ne_true]
        refine ok_place hp hk hs f ((a + b) / 2 + 1) b (by omega) h2 (by omega) (fun i h4 => ?_) hi
        have c' : rk r p ((a + b) / 2) ≤ rk r p k := by unfold rk; omega
        exact Int.le_trans (hs i ((a + b) / 2) (by lia) (by omega)) c'
theorem ok_bin : ∀ (f : Nat) (p : Array Nat) (k : Nat),POk n p → 1 ≤ k → k + f = n → Srt r p k → KOk n (ltR r) (kas_bin f p k) fun a => POk n a ∧ Srt r a n
  | 0,p,k,hp,h1,h2,hs => ⟨hp,by rw [show n = k by lia]; exact hs⟩
  | f + 1,p,k,hp,h1,h2,hs => by
    unfold kas_bin
    refine KOk.bind (KOk.mono (fun l h => ?_) (ok_place hp (by omega) hs k 0 k (by lia) (Nat.le_refl _) (by lia) (fun i h => by lia) fun i h3 h4 => by omega))
    obtain ⟨g1,g2,g3⟩ := h
    refine ok_bin f _ (k + 1) (hp.of_perm (bubble_perm _ _ _)) (by lia) (by lia) ?_
    intro i j hij hj
    have hs' : k < p.size := by rw [hp.size]; omega
    rw [rk_bubble hs' (by omega),rk_bubble hs' (by omega)]
    have e1 : k - (k - l) = l := by lia
    rw [e1]
    by_cases hil : i = l
    · rw [if_pos hil]
      by_cases hjl : j = l
      · rw [if_pos hjl]; exact Int.le_refl _
      · rw [if_neg hjl,if_pos (by lia)]
        exact Int.le_of_lt (g3 _ (by lia) (by omega))
    · rw [if_neg hil]
      by_cases hjl : j = l
      · rw [if_pos hjl,if_neg (by lia)]
        exact g2 i (by lia)
      · rw [if_neg hjl]
        by_cases h3 : l < i ∧ i ≤ k
        · rw [if_pos h3,if_pos (by lia)]
          exact hs _ _ (by omega) (by omega)
        · rw [if_neg h3]
          by_cases h4 : l < j ∧ j ≤ k
          · rw [if_pos h4]
            exact hs _ _ (by omega) (by omega)
          · rw [if_neg h4]
            exact hs _ _ hij (by lia)
theorem ok_sort (h1 : 1 ≤ n) : KOk n (ltR r) (kas_sort n) fun p => POk n p ∧ Srt r p n := by
  unfold kas_sort
  have p0 : POk n (List.toArray (List.range n)) := List.Perm.refl _
  refine KOk.bind (KOk.mono (fun a h => ?_) (ok_count p0 h1))
  obtain ⟨g1,g2,g3,g4⟩ := h
  by_cases e : a.1 < n
  · rw [if_pos e]
    have em : max a.1 1 = a.1 := by lia
    rw [em]
    exact ok_bin _ _ _ g1 g2 (by lia) g4
  · rw [if_neg e]
    exact ⟨g1,by rw [show n = a.1 by lia]; exact g4⟩
end
end MT
set_option Elab.async false
set_option maxRecDepth 100000
namespace L2
open PySem PySem.Spec PyProof.Rows
abbrev Key := Sum Int Str
def keyIs : Key → Value → Bool
  | .inl k,v => Value.isInt k v
  | .inr x,v => Value.isStrOf x v
def keyH (w : World) : Key → Int
  | .inl k => hashInt k
  | .inr x => hashStr w x
theorem keyIs_shape : ∀ {k : Key} {v : Value},keyIs k v = true → (∃ i t,k = Sum.inl i ∧ v = Value.int i t) ∨ (∃ x t,k = Sum.inr x ∧ v = Value.str x t)
  | .inl i,v,h => by
    obtain ⟨t,e⟩ := Value.isInt_shape (k:=i) (v:=v) h
    exact .inl ⟨i,t,rfl,e⟩
  | .inr x,v,h => by
    obtain ⟨t,e⟩ := Value.isStrOf_shape (x:=x) (v:=v) h
    exact .inr ⟨x,t,rfl,e⟩
theorem key_ll (a b : Int) : decide ((Sum.inl a : Key) = Sum.inl b) = (a == b) := by
  by_cases e : a = b
  · subst e; simp
  · have h : ¬ (Sum.inl a : Key) = Sum.inl b := fun q => e (Sum.inl.inj q)
    rw [decide_eq_false h]
    exact (beq_eq_false_iff_ne.mpr e).symm
theorem key_rr (a b : Str) : decide ((Sum.inr a : Key) = Sum.inr b) = decide (a = b) := by
  by_cases e : a = b
  · subst e; simp
  · have h : ¬ (Sum.inr a : Key) = Sum.inr b := fun q => e (Sum.inr.inj q)
    rw [decide_eq_false h,decide_eq_false e]
theorem key_lr (a : Int) (b : Str) : decide ((Sum.inl a : Key) = Sum.inr b) = false := decide_eq_false (fun q => nomatch q)
theorem key_rl (a : Str) (b : Int) : decide ((Sum.inr a : Key) = Sum.inl b) = false := decide_eq_false (fun q => nomatch q)
def mixKind (prog : Program) (w : World) : PySem.KeyKind prog w Key where
  is := keyIs
  hash := keyH w
  inj := fun v a b ha hb => by
    rcases keyIs_shape ha with ⟨i,t,rfl,rfl⟩ | ⟨x,t,rfl,rfl⟩
    · rcases keyIs_shape hb with ⟨j,u,rfl,e⟩ | ⟨y,u,rfl,e⟩
      · injection e with e1 _; rw [e1]
      · exact nomatch e
    · rcases keyIs_shape hb with ⟨j,u,rfl,e⟩ | ⟨y,u,rfl,e⟩
      · exact nomatch e
      · injection e with e1 _; rw [e1]
  byValue := fun k v h => by
    rcases keyIs_shape h with ⟨i,t,rfl,rfl⟩ | ⟨x,t,rfl,rfl⟩ <;> rfl
  pyHash := fun hv h => by
    rcases keyIs_shape hv with ⟨i,t,rfl,rfl⟩ | ⟨x,t,rfl,rfl⟩
    · exact wpAny_pyHash_int h
    · exact wpAny_pyHash_str h
  eqBool := fun hu hv h => by
    rcases keyIs_shape hu with ⟨i,t,rfl,rfl⟩ | ⟨x,t,rfl,rfl⟩
    · rcases keyIs_shape hv with ⟨j,u,rfl,rfl⟩ | ⟨y,u,rfl,rfl⟩
      · rw [key_ll] at h; exact wpAny_eqBool_int h
      · rw [key_lr] at h; exact SeqAt.EqAt.int_str i t y u _ _ _ _ h
    · rcases keyIs_shape hv with ⟨j,u,rfl,rfl⟩ | ⟨y,u,rfl,rfl⟩
      · rw [key_rl] at h; exact SeqAt.EqAt.str_int x t j u _ _ _ _ h
      · rw [key_rr] at h; exact wpAny_eqBool_str h
  «strs» := fun k x t v h => by
    rcases keyIs_shape h with ⟨i,u,rfl,e⟩ | ⟨y,u,rfl,e⟩
    · exact nomatch e
    · injection e with e1 _
      subst e1
      cases v <;> rfl
end L2
namespace L2
open PySem PySem.Spec PyProof.Rows
inductive V where
  | non | bl (b : Bool) | int (i : Int) | str (x : Str) | byt (b : Array UInt8) | flt (b : UInt64) | ref (a : Addr) | ty (n : String)
  deriving DecidableEq
def RelV : V → Value → Prop
  | .non,u => u = Value.none
  | .bl b,u => u = Value.bool b
  | .int i,u => ∃ t,u = Value.int i t
  | .str x,u => ∃ t,u = Value.str x t
  | .byt b,u => ∃ t,u = Value.bytes b t
  | .flt b,u => ∃ t,u = Value.float b t
  | .ref a,u => u = Value.ref a
  | .ty n,u => u = Value.type n
abbrev Vals : List V → List Value → Prop := Paired RelV
theorem Vals.length {xs : List V} {us : List Value} (r : Vals xs us) : xs.length = us.length := Paired.length r
theorem Vals.get : ∀ {xs : List V} {us : List Value} {i : Nat} {x : V},Vals xs us → xs[i]? = some x → ∃ u,us[i]? = some u ∧ RelV x u
  | _,_,_,_,.nil,e => by simp at e
  | _,_,0,_,.cons r _,e => by simp at e; subst e; exact ⟨_,rfl,r⟩
  | _,_,i + 1,x,.cons _ t,e => by
    obtain ⟨u,h1,h2⟩ := Vals.get (i:=i) (x:=x) t (by simpa using e)
    exact ⟨u,by simpa using h1,h2⟩
theorem Vals.set {x : V} {u : Value} (r : RelV x u) : ∀ {xs : List V} {us : List Value} (i : Nat),Vals xs us → Vals (xs.set i x) (us.set i u)
  | _,_,_,.nil => .nil
  | _,_,0,.cons _ t => .cons r t
  | _,_,i + 1,.cons q t => .cons q (Vals.set r i t)
theorem Vals.append : ∀ {xs ys : List V} {us ws : List Value},Vals xs us → Vals ys ws → Vals (xs ++ ys) (us ++ ws)
  | _,_,_,_,.nil,s => s
  | _,_,_,_,.cons r t,s => .cons r (Vals.append t s)
theorem Vals.take : ∀ {xs : List V} {us : List Value} (n : Nat),Vals xs us → Vals (xs.take n) (us.take n)
  | _,_,0,_ => .nil
  | _,_,_ + 1,.nil => .nil
  | _,_,n + 1,.cons r t => .cons r (Vals.take n t)
theorem Vals.drop : ∀ {xs : List V} {us : List Value} (n : Nat),Vals xs us → Vals (xs.drop n) (us.drop n)
  | _,_,0,r => r
  | _,_,_ + 1,.nil => .nil
  | _,_,n + 1,.cons _ t => Vals.drop n t
theorem Vals.none_of : ∀ {xs : List V} {us : List Value} {i : Nat},Vals xs us → xs[i]? = none → us[i]? = none := fun {xs us i} r e => by
  have h1 := r.length
  have h2 : xs.length ≤ i := List.getElem?_eq_none_iff.mp e
  exact List.getElem?_eq_none_iff.mpr (by lia)
def RelO : Option V → Option Value → Prop
  | some v,some u => RelV v u
  | none,none => True
  | _,_ => False
def KV {κ : Type} : List (κ × V) → List (κ × Value) → Prop := Paired fun (p : κ × V) (q : κ × Value) => p.1 = q.1 ∧ RelV p.2 q.2
def kV : Key → V
  | .inl i => .int i
  | .inr x => .str x
inductive HO where
  | lst (xs : List V)
  | tup (xs : List V)
  | dK (kvs : List (Key × V)) | dT (kvs : List (List Key × V))
  | set (S : Int → Bool) (n : Nat)
  | ins (C dx : Addr) (fs : List (Str × V))
  | own (x : Addr)
  | xd (fs : List (Str × V))
  | met (f x : Addr)
  | rng (lo hi : Int)
  | frz (o : Obj) (u : HO)
  | tbl (ps : Array Value)
  | ext (φ : Heap → Prop)
abbrev Hp := Addr → Option HO
def upd (H : Hp) (a : Addr) (o : HO) : Hp := fun b => if b = a then some o else H b
theorem upd_same {H : Hp} {a : Addr} {o : HO} : upd H a o a = some o := by unfold upd; rw [if_pos rfl]
theorem upd_ne {H : Hp} {a b : Addr} {o : HO} (h : b ≠ a) : upd H a o b = H b := by unfold upd; rw [if_neg h]
theorem ne_of {H : Hp} {a b : Addr} {o u : HO} (h : H a = some o) (h' : H b = some u) (d : o ≠ u) : a ≠ b := by
  intro e; subst e; rw [h] at h'; exact d (Option.some.inj h')
theorem ne_of_none {H : Hp} {a b : Addr} {o : HO} (h : H a = some o) (h' : H b = none) : a ≠ b := by
  intro e; subst e; rw [h] at h'; cases h'
section
variable (P : Program) (w : World)
def ObjOk (H : Hp) (h : Heap) (a : Addr) : HO → Prop
  | .lst xs => xs.length ≤ sizeLine ∧ ∃ (its : List Value) (n : Nat),Vals xs its ∧ h.get? a = some { cls := .type "list",data := .seq its.toArray n }
  | .tup xs => xs.length ≤ sizeLine ∧ ∃ its : List Value,Vals xs its ∧ IsTup h a its.toArray
  | .dK kvs => kvs.length ≤ sizeLine ∧ (a == sysModules) = false ∧ ∃ vs,KV kvs vs ∧ h.DictOf (mixKind P w) a vs
  | .dT kvs => kvs.length ≤ sizeLine ∧ (a == sysModules) = false ∧ ∃ xs : List (List Key × Addr × Value),
      Paired (fun (p : List Key × V) (q : List Key × Addr × Value) => p.1 = q.1 ∧ H q.2.1 = some (.tup (p.1.map kV)) ∧ RelV p.2 q.2.2) kvs xs ∧
      ∃ o es ep,h.get? a = some o ∧ o.ExactDict ∧ o.data = .dict es ep ∧ es.toList = xs.map (entryOfKey (tupleKind (mixKind P w))) ∧ (xs.map (·.1)).Nodup
  | .set S n => h.SetOf (intKind P w) a S n
  | .ins C dx fs => H dx = some (.own a) ∧ fs.length ≤ 1000 ∧ dx ≠ a ∧ h.get? a = some (PySem.W.instObj C dx) ∧
      ∃ mA,h.Ns1 dx mA ∧ (∀ f,RelO (fs.lookup f) (mA f)) ∧ PySem.Within mA (fs.map (·.1))
  | .own _ => ∃ o,h.get? a = some o
  | .xd fs => ∃ mA,h.Ns1 a mA ∧ ∀ f,RelO (fs.lookup f) (mA f)
  | .rng lo hi => ∃ t u v,h.get? a = some { cls := .type "range",data := .fields #[.int lo t,.int hi u,.int 1 v] }
  | .frz o u => h.get? a = some o ∧ ObjOk H h a u
  | .tbl ps => h.get? a = some { cls := .none,data := .fields ps }
  | .met f x => h.get? a = some (PySem.W.methodObj (.ref f) (.ref x))
  | .ext φ => φ h ∧ (∃ o,h.get? a = some o) ∧ ∀ h1 h2 : Heap,φ h1 → (∀ o,h1.get? a = some o → h2.get? a = some o) → φ h2
def HOk (H : Hp) (h : Heap) : Prop := ∀ a o,H a = some o → ObjOk P w H h a o
end
section
variable {P : Program} {w : World} {H H' : Hp} {h h' : Heap} {a : Addr} {o : HO}
theorem ObjOk.lt (x : ObjOk P w H h a o) : a < h.objs.size := by
  cases o with
  | lst xs => obtain ⟨_,_,_,_,e⟩ := x; exact Heap.lt_size e
  | tup xs => obtain ⟨_,_,_,p⟩ := x; exact p.lt
  | dK kvs => obtain ⟨_,_,_,_,o,_,_,e,_⟩ := x; exact Heap.lt_size e
  | dT kvs => obtain ⟨_,_,_,_,o,_,_,e,_⟩ := x; exact Heap.lt_size e
  | set S n => obtain ⟨o,_,_,_,e,_⟩ := x; exact Heap.lt_size e
  | ins C dx fs => obtain ⟨_,_,_,e,_⟩ := x; exact Heap.lt_size e
  | own y => obtain ⟨_,e⟩ := x; exact Heap.lt_size e
  | xd fs => obtain ⟨_,⟨_,_,_,e,_⟩,_⟩ := x; exact Heap.lt_size e
  | rng lo hi => obtain ⟨_,_,_,e⟩ := x; exact Heap.lt_size e
  | frz ob u => obtain ⟨e,_⟩ := x; exact Heap.lt_size e
  | tbl ps => exact Heap.lt_size (show h.get? a = some _ from x)
  | met f y => exact Heap.lt_size (show h.get? a = some _ from x)
  | ext φ => obtain ⟨_,⟨_,e⟩,_⟩ := x; exact Heap.lt_size e
theorem Paired.mapP {α β : Type} {F G : α → β → Prop} : ∀ {l₁ : List α} {l₂ : List β},Paired F l₁ l₂ → (∀ a b,F a b → G a b) → Paired G l₁ l₂
  | _,_,.nil,_ => .nil
  | _,_,.cons r t,f => .cons (f _ _ r) (Paired.mapP t f)
theorem ObjOk.stay (x : ObjOk P w H h a o) (k : ∀ b u,(b = a ∨ H b = some (.own a)) → h.get? b = some u → h'.get? b = some u)
    (ho : ∀ b,H b = some (.own a) → H' b = some (.own a)) (ht : ∀ b xs,H b = some (.tup xs) → H' b = some (.tup xs)) : ObjOk P w H' h' a o := by
  induction o with
  | lst xs => obtain ⟨z,its,n,r,e⟩ := x; exact ⟨z,its,n,r,k _ _ (.inl rfl) e⟩
  | tup xs => obtain ⟨z,its,r,ob,e,c⟩ := x; exact ⟨z,its,r,ob,k _ _ (.inl rfl) e,c⟩
  | dK kvs => obtain ⟨z,y,vs,r,ob,es,ep,e,c⟩ := x; exact ⟨z,y,vs,r,ob,es,ep,k _ _ (.inl rfl) e,c⟩
  | dT kvs =>
    obtain ⟨z,y,xs,r,ob,es,ep,e,c⟩ := x
    exact ⟨z,y,xs,Paired.mapP r fun p q z => ⟨z.1,ht _ _ z.2.1,z.2.2⟩,ob,es,ep,k _ _ (.inl rfl) e,c⟩
  | set S n => obtain ⟨ob,es,ep,t,e,c⟩ := x; exact ⟨ob,es,ep,t,k _ _ (.inl rfl) e,c⟩
  | ins C dx fs =>
    obtain ⟨d,z,ne,e,mA,⟨od,es,ep,e2,c⟩,r⟩ := x
    exact ⟨ho _ d,z,ne,k _ _ (.inl rfl) e,mA,⟨od,es,ep,k _ _ (.inr d) e2,c⟩,r⟩
  | own y => obtain ⟨ob,e⟩ := x; exact ⟨ob,k _ _ (.inl rfl) e⟩
  | xd fs => obtain ⟨mA,⟨od,es,ep,e,c⟩,r⟩ := x; exact ⟨mA,⟨od,es,ep,k _ _ (.inl rfl) e,c⟩,r⟩
  | rng lo hi => obtain ⟨t,u,v,e⟩ := x; exact ⟨t,u,v,k _ _ (.inl rfl) e⟩
  | frz ob u ih => obtain ⟨e,q⟩ := x; exact ⟨k _ _ (.inl rfl) e,ih q⟩
  | tbl ps =>
    have e : h.get? a = some { cls := .none,data := .fields ps } := x
    show h'.get? a = some { cls := .none,data := .fields ps }
    exact k a _ (.inl rfl) e
  | met f y =>
    have e : h.get? a = some (PySem.W.methodObj (.ref f) (.ref y)) := x
    show h'.get? a = some (PySem.W.methodObj (.ref f) (.ref y))
    exact k a _ (.inl rfl) e
  | ext φ => obtain ⟨p,⟨o,e⟩,st⟩ := x; exact ⟨st _ _ p fun o q => k _ _ (.inl rfl) q,⟨o,k _ _ (.inl rfl) e⟩,st⟩
theorem HOk.lt (x : HOk P w H h) (e : H a = some o) : a < h.objs.size := (x a o e).lt
theorem HOk.fresh (x : HOk P w H h) (e : h.objs.size ≤ a) : H a = none := by
  cases q : H a with
  | none => rfl
  | some u => exact absurd (Nat.lt_of_lt_of_le (x.lt q) e) (Nat.lt_irrefl _)
theorem HOk.kept (x : HOk P w H h) (k : ∀ b u,h.get? b = some u → h'.get? b = some u) : HOk P w H h' := fun a o e =>
  (x a o e).stay (fun b u _ q => k b u q) (fun _ q => q) fun _ _ q => q
theorem HOk.laid (x : HOk P w H h) (k : ∀ b u,h.get? b = some u → h'.get? b = some u) (hp : h.objs.size ≤ a) (new : ObjOk P w (upd H a o) h' a o) : HOk P w (upd H a o) h' := fun b u e => by
  have hn := x.fresh hp
  by_cases hb : b = a
  · subst hb; rw [upd_same] at e; cases e; exact new
  · rw [upd_ne hb] at e
    exact (x b u e).stay (fun c v _ q => k c v q) (fun c q => by rw [upd_ne (ne_of_none q hn)]; exact q) fun c xs q => by rw [upd_ne (ne_of_none q hn)]; exact q
end
def Rd (H : Hp) (a : Addr) (u : HO) : Prop := H a = some u ∨ ∃ o,H a = some (.frz o u)
theorem Rd.ok {P : Program} {w : World} {H : Hp} {h : Heap} {a : Addr} {u : HO} (r : Rd H a u) (x : HOk P w H h) : ObjOk P w H h a u := by
  rcases r with r | ⟨o,r⟩
  · exact x a u r
  · obtain ⟨_,q⟩ := x a _ r
    exact q
def Mut : Option HO → Prop
  | some (.lst _) => True
  | some (.dK _) => True
  | some (.dT _) => True
  | some (.set _ _) => True
  | some (.ins _ _ _) => True
  | some (.ext _) => True
  | _ => False
section
variable {P : Program} {w : World} {H : Hp} {h h' : Heap} {x e : Addr} {o' : HO}
theorem HOk.write (ok : HOk P w H h) (mu : Mut (H x)) (he : e = x ∨ H e = some (.own x)) (k : ∀ b u,b ≠ e → h.get? b = some u → h'.get? b = some u) (heo : ∃ u,h'.get? e = some u)
    (new : ObjOk P w (upd H x o') h' x o') : HOk P w (upd H x o') h' := fun b u q => by
  have nown : ∀ c y,H c = some (.own y) → c ≠ x := fun c y r z => by subst z; rw [r] at mu; exact mu
  have ntup : ∀ c xs,H c = some (.tup xs) → c ≠ x := fun c xs r z => by subst z; rw [r] at mu; exact mu
  by_cases hb : b = x
  · subst hb; rw [upd_same] at q; cases q; exact new
  · rw [upd_ne hb] at q
    by_cases hbe : b = e
    · have q' : H b = some (.own x) := by
        rcases he with z | z
        · exact absurd (hbe.trans z) hb
        · rw [hbe]; exact z
      rw [q] at q'; cases q'
      obtain ⟨v,hv⟩ := heo
      exact ⟨v,by rw [hbe]; exact hv⟩
    · refine (ok b u q).stay (fun c v hc r => k c v ?_ r) (fun c r => by rw [upd_ne (nown c b r)]; exact r) fun c xs r => by rw [upd_ne (ntup c xs r)]; exact r
      rcases hc with rfl | hc
      · exact hbe
      · rintro rfl
        rcases he with z | z
        · exact nown c b hc z
        · rw [hc] at z; cases z; exact hb rfl
end
structure Un (fs ex : List Addr) (H H' : Hp) (h h' : Heap) : Prop where
  keep : ∀ b o,h.get? b = some o → H b = none → b ∉ fs → b ∉ ex → h'.get? b = some o
  slot : ∀ b o,h.get? b = some o → H b = none → b ∈ fs → b ∉ ex → ∃ sl,h'.get? b = some { o with slots := sl }
  free : ∀ b o,h.get? b = some o → H b = none → b ∉ ex → H' b = none
  there : ∀ b o,h.get? b = some o → b ∉ ex → ∃ o',h'.get? b = some o'
  tups : ∀ b xs,H b = some (.tup xs) → H' b = some (.tup xs)
  frzs : ∀ b o u,H b = some (.frz o u) → H' b = some (.frz o u)
  tbls : ∀ b ps,H b = some (.tbl ps) → ∃ more,H' b = some (.tbl (ps ++ more))
section
variable {fs fs' ex ex' : List Addr} {H H1 H2 : Hp} {h h1 h2 h' : Heap} {a x e : Addr} {o : HO}
theorem Un.any (u : Un fs ex H H1 h h1) {b : Addr} {ob : Obj} (q : h.get? b = some ob) (n : H b = none) (hx : b ∉ ex) : ∃ sl,h1.get? b = some { ob with slots := sl } := by
  by_cases hb : b ∈ fs
  · exact u.slot b ob q n hb hx
  · exact ⟨ob.slots,u.keep b ob q n hb hx⟩
theorem Un.kept (k : ∀ b u,h.get? b = some u → h'.get? b = some u) : Un fs ex H H h h' :=
  ⟨fun b ob q _ _ _ => k b ob q,fun b ob q _ _ _ => ⟨ob.slots,k b ob q⟩,fun _ _ _ n _ => n,fun b ob q _ => ⟨ob,k b ob q⟩,fun _ _ q => q,fun _ _ _ q => q,fun _ ps q => ⟨#[],by rw [q]; simp⟩⟩
theorem Un.refl : Un fs ex H H h h := Un.kept fun _ _ q => q
theorem Un.laid (k : ∀ b u,h.get? b = some u → h'.get? b = some u) (hp : h.objs.size ≤ a) (hn : H a = none) : Un fs ex H (upd H a o) h h' where
  keep := fun b u q _ _ _ => k b u q
  slot := fun b u q _ _ _ => ⟨u.slots,k b u q⟩
  free := fun b u q n _ => by rw [upd_ne (Nat.ne_of_lt (Nat.lt_of_lt_of_le (Heap.lt_size q) hp))]; exact n
  there := fun b u q _ => ⟨u,k b u q⟩
  tups := fun b xs q => by rw [upd_ne (ne_of_none q hn)]; exact q
  frzs := fun b u xs q => by rw [upd_ne (ne_of_none q hn)]; exact q
  tbls := fun b ps q => ⟨#[],by rw [upd_ne (ne_of_none q hn),q]; simp⟩
theorem Un.write (mu : Mut (H x)) (he : e = x ∨ H e = some (.own x)) (k : ∀ b u,b ≠ e → h.get? b = some u → h'.get? b = some u) (heo : ∃ u,h'.get? e = some u) : Un fs ex H (upd H x o) h h' := by
  have hx : ∀ b,H b = none → b ≠ x := fun b n z => by subst z; rw [n] at mu; exact mu
  have hb : ∀ b,H b = none → b ≠ e := fun b n z => by
    subst z
    rcases he with r | r
    · exact hx b n r
    · rw [n] at r; cases r
  have hm : ∀ b u,H b = some u → ¬ Mut (some u) → b ≠ x := fun b u q nm z => by subst z; rw [q] at mu; exact nm mu
  refine ⟨fun b u q n _ _ => k b u (hb b n) q,fun b u q n _ _ => ⟨u.slots,k b u (hb b n) q⟩,fun b u q n _ => by rw [upd_ne (hx b n)]; exact n,fun b u q _ => ?_,
    fun b xs q => by rw [upd_ne (hm b _ q fun z => z)]; exact q,fun b u xs q => by rw [upd_ne (hm b _ q fun z => z)]; exact q,fun b ps q => ⟨#[],by rw [upd_ne (hm b _ q fun z => z),q]; simp⟩⟩
  by_cases hbe : b = e
  · subst hbe; exact heo
  · exact ⟨u,k b u hbe q⟩
end
def trk (h : Heap) (H : Hp) : List Addr := (List.range h.objs.size).filter fun a => (H a).isSome
def hidT (h : Heap) (H : Hp) : Heap := PySem.W.hideAll h (trk h H)
theorem hidT_size (h : Heap) (H : Hp) : (hidT h H).objs.size = h.objs.size := PySem.W.hideAll_size _ _
theorem hidT_get {h : Heap} {H : Hp} {b : Addr} {o : Obj} (e : h.get? b = some o) (n : H b = none) : (hidT h H).get? b = some o :=
  PySem.W.hideAll_get _ e fun hm => by
    have q : (H b).isSome = true := (List.mem_filter.mp hm).2
    rw [n] at q; simp at q
theorem of_hidT {h : Heap} {H : Hp} {b : Addr} {o : Obj} (e : (hidT h H).get? b = some o) : h.get? b = some o ∧ H b = none := by
  have e' : h.get? b = some o := PySem.W.of_hideAll (trk h H) e
  refine ⟨e',?_⟩
  cases q : H b with
  | none => rfl
  | some x =>
    have hm : b ∈ trk h H := List.mem_filter.mpr ⟨List.mem_range.mpr (Heap.lt_size e'),by simp [q]⟩
    have z : (hidT h H).get? b = none := PySem.W.hideAll_none (trk h H) hm
    rw [z] at e; cases e
end L2
namespace L2
open PySem PySem.Spec PyProof.Rows
structure Mod (K : PySem.W.Frag) (mg : Str → Option Value) (base : Heap) : Prop where
  kin : K.In base
  glob : base.Ns mainGlobals mg
  blt : ∃ mb,base.Ns builtinsNs mb ∧ ∀ x : Str,x ≠ "__name__" → mb x = bootBuiltins x
  nolimit : base.NoLimit
structure Cx where
  prog : Program
  w : World
  K : PySem.W.Frag
  mg : Str → Option Value
  base : Heap
  A : Around
  N : List Str
  s₀ : Shared
  H₀ : Hp
  env : Env
  outer : List Env
  stack : List Env
  ex : List Addr
  fn : Str → Bool
  calm : Bool
  pn : List (Addr × Obj)
  xe : Value → Shared → Prop
def frs (l : List Env) : List Addr := l.filterMap (·.frame)
abbrev Cx.fs (X : Cx) : List Addr := frs X.outer
def Vis (sc : Scope) (x : Str) : Prop := sc.names.lookup x = some .local ∨ sc.names.lookup x = some .cell ∨ sc.names.lookup x = some .free
def Loc (sc : Scope) (x : Str) : Prop := sc.names.lookup x = some .local ∨ sc.names.lookup x = some .cell
def Look (env : Env) (h : Heap) (m : Str → Option Value) (x : Str) (u : Value) : Prop :=
  (env.kindOf x = some .local ∧ m x = some u) ∨ ((env.kindOf x = some .cell ∨ env.kindOf x = some .free) ∧ ∃ c,env.cells.lookup x = some c ∧ h.IsCell c (some u))
structure Cx.Ok (X : Cx) : Prop where
  mod : Mod X.K X.mg X.base
  kind : X.env.scope.kind = .function
  glob : X.env.globals = mainGlobals
  blt : X.env.builtins = builtinsNs
  above : X.s₀.heap.objs.size ≤ X.env.locals
  inj : ∀ x y c,X.env.cells.lookup x = some c → X.env.cells.lookup y = some c → x = y
  has : ∀ x,(X.env.kindOf x = some .cell ∨ X.env.kindOf x = some .free) → ∃ c,X.env.cells.lookup x = some c
  cab : ∀ x c,X.fn x = true → X.env.cells.lookup x = some c → X.s₀.heap.objs.size ≤ c
  hd : X.calm = true → X.A.handled = none
  frames : X.A.frames = some X.stack
  stk : X.stack = X.outer ∨ (X.stack = X.env :: X.outer ∧ X.env.frame = some X.env.locals)
  exf : ∀ b ∈ X.ex,b ≠ X.env.locals ∧ ∀ x c,X.env.cells.lookup x = some c → c ≠ b
  bs : ∀ b o,X.base.get? b = some o → X.s₀.heap.get? b = some o ∧ X.H₀ b = none
  bsz : X.base.objs.size ≤ X.s₀.heap.objs.size
  noex : ∀ b o,X.base.get? b = some o → b ∉ X.ex
  exfs : ∀ b ∈ X.ex,b ∉ X.fs
  funs : X.s₀.heap.FunFrames X.base X.outer
  frf : ∀ b ∈ X.fs,X.H₀ b = none
structure Inv (X : Cx) (pins : List (Addr × Obj)) (σ : List (Option V)) (H : Hp) (s : Shared) : Prop where
  ok : X.Ok
  os : s.os = X.s₀.os
  bare : AllBare s.gens
  base : Un X.fs X.ex X.H₀ H X.s₀.heap s.heap
  loc : ∃ m,s.heap.Ns X.env.locals m ∧ ∀ (i : Nat) (x : Str) (v : V),X.N[i]? = some x → σ[i]? = some (some v) → Vis X.env.scope x → ∃ u,RelV v u ∧ Look X.env s.heap m x u
  cell : ∀ x c,X.env.cells.lookup x = some c → ∃ v,s.heap.IsCell c v
  free : H X.env.locals = none
  freeC : ∀ x c,X.env.cells.lookup x = some c → H c = none
  pin : ∀ p ∈ X.pn ++ pins,s.heap.get? p.1 = some p.2 ∧ H p.1 = none ∧ p.1 ≠ X.env.locals ∧ p.1 ∉ X.fs ∧ ∀ v,p.2.data ≠ .cell v
  hok : HOk X.prog X.w H s.heap
  len : σ.length = X.N.length
section
variable {X : Cx} {pins : List (Addr × Obj)} {σ : List (Option V)} {H H' : Hp} {s : Shared} {h' : Heap}
theorem Cx.Ok.nofr (ok : X.Ok) {b : Addr} {o : Obj} (e : X.base.get? b = some o) : b ∉ X.fs := fun hb => by
  have := (ok.funs.mem hb).1
  rw [e] at this; cases this
theorem Inv.bs (I : Inv X pins σ H s) : ∀ b o,X.base.get? b = some o → s.heap.get? b = some o ∧ H b = none := fun b o e =>
  ⟨I.base.keep b o (I.ok.bs b o e).1 (I.ok.bs b o e).2 (I.ok.nofr e) (I.ok.noex b o e),I.base.free b o (I.ok.bs b o e).1 (I.ok.bs b o e).2 (I.ok.noex b o e)⟩
theorem Inv.bk (I : Inv X pins σ H s) : ∀ b o,X.base.get? b = some o → s.heap.get? b = some o := fun b o e => (I.bs b o e).1
theorem Inv.mod (I : Inv X pins σ H s) : Mod X.K X.mg X.base := I.ok.mod
theorem Inv.kIn (I : Inv X pins σ H s) : X.K.In s.heap := I.ok.mod.kin.keeps I.bk
theorem Inv.lt (I : Inv X pins σ H s) : X.env.locals < s.heap.objs.size := let ⟨_,hn,_⟩ := I.loc; hn.lt
theorem Inv.sz (I : Inv X pins σ H s) : X.s₀.heap.objs.size ≤ s.heap.objs.size := Nat.le_trans I.ok.above (Nat.le_of_lt I.lt)
theorem Inv.nofs (I : Inv X pins σ H s) {a : Addr} (h : s.heap.objs.size ≤ a) : a ∉ X.fs := fun hb => by
  obtain ⟨_,o,ho,_⟩ := I.ok.funs.mem hb
  exact absurd (Nat.lt_of_lt_of_le (Heap.lt_size ho) (Nat.le_trans I.sz h)) (Nat.lt_irrefl _)
theorem Inv.cne (I : Inv X pins σ H s) : ∀ x c,X.env.cells.lookup x = some c → c ≠ X.env.locals := fun x c e z => by
  obtain ⟨v,o,ho,hd⟩ := I.cell x c e
  obtain ⟨m,⟨o',es,ep,ho',hd',_⟩,_⟩ := I.loc
  rw [z,ho'] at ho; cases ho; rw [hd'] at hd; cases hd
theorem Inv.funs (I : Inv X pins σ H s) : s.heap.FunFrames X.base X.outer := by
  have all : ∀ (l : List Env),(∀ b ∈ frs l,b ∈ X.fs) → X.s₀.heap.FunFrames X.base l → s.heap.FunFrames X.base l := by
    intro l
    induction l with
    | nil => intro _ _; trivial
    | cons env r ih =>
      intro hs hl
      obtain ⟨hk,⟨L,o,hf,hn,ho,hd⟩,hr⟩ := hl
      have hL : L ∈ X.fs := hs L (by unfold frs; rw [List.filterMap_cons,hf]; exact List.mem_cons_self)
      obtain ⟨sl,e⟩ := I.base.slot L o ho (I.ok.frf L hL) hL fun z => I.ok.exfs L z hL
      exact ⟨hk,⟨L,_,hf,hn,e,hd⟩,ih (fun b hb => hs b (by unfold frs; rw [List.filterMap_cons,hf]; exact List.mem_cons_of_mem _ hb)) hr⟩
  exact all X.outer (fun _ hb => hb) I.ok.funs
theorem Inv.stack (I : Inv X pins σ H s) : s.heap.FunFrames X.base X.stack := by
  rcases I.ok.stk with e | ⟨e,hf⟩
  · rw [e]; exact I.funs
  · rw [e]
    obtain ⟨m,hn,_⟩ := I.loc
    refine .cons (by rw [I.ok.kind]; decide) hf hn ?_ I.funs
    exact Heap.get?_none_of_le (Nat.le_trans I.ok.bsz I.ok.above)
theorem Inv.stkSub (I : Inv X pins σ H s) : ∀ b ∈ frs X.stack,b ∈ X.env.locals :: X.fs := fun b hb => by
  rcases I.ok.stk with e | ⟨e,hf⟩
  · rw [e] at hb; exact List.mem_cons_of_mem _ hb
  · rw [e] at hb
    unfold frs at hb
    rw [List.filterMap_cons,hf] at hb
    exact hb
theorem Inv.stkFree (I : Inv X pins σ H s) : ∀ b ∈ frs X.stack,H b = none := fun b hb => by
  rcases List.mem_cons.mp (I.stkSub b hb) with e | hb
  · rw [e]; exact I.free
  · obtain ⟨_,o,ho,_⟩ := I.ok.funs.mem hb
    exact I.base.free b o ho (I.ok.frf b hb) fun z => I.ok.exfs b z hb
theorem Inv.step {g' : Array GenState} {t' : Nat} {d' : Drawn} {ch : List Addr} (I : Inv X pins σ H s)
    (hch : ∀ b ∈ ch,(b ∈ X.ex ∨ X.s₀.heap.objs.size ≤ b) ∧ b ≠ X.env.locals ∧ (∀ x c,X.env.cells.lookup x = some c → c ≠ b) ∧ ∀ p ∈ X.pn ++ pins,p.1 ≠ b)
    (keep : ∀ b o,b ≠ X.env.locals → b ∉ X.fs → b ∉ ch → s.heap.get? b = some o → H b = none → h'.get? b = some o)
    (slot : ∀ b o,b ≠ X.env.locals → b ∈ X.fs → b ∉ ch → s.heap.get? b = some o → H b = none → ∃ sl,h'.get? b = some { o with slots := sl }) (free : ∀ b o,b ∉ ch → s.heap.get? b = some o → H b = none → H' b = none)
    (there : ∀ b o,b ∉ ch → s.heap.get? b = some o → ∃ o',h'.get? b = some o')
    (tups : ∀ b xs,H b = some (.tup xs) → H' b = some (.tup xs)) (frzs : ∀ b o u,H b = some (.frz o u) → H' b = some (.frz o u)) (tbls : ∀ b ps,H b = some (.tbl ps) → ∃ more,H' b = some (.tbl (ps ++ more)))
    (ns : ∀ m,s.heap.Ns X.env.locals m → h'.Ns X.env.locals m) (hok : HOk X.prog X.w H' h') (hg : AllBare g') :
    Inv X pins σ H' { s with heap := h',gens := g',drawn := d',toks := t' } := by
  have neL : ∀ b o,X.s₀.heap.get? b = some o → b ≠ X.env.locals := fun b o e => Nat.ne_of_lt (Nat.lt_of_lt_of_le (Heap.lt_size e) I.ok.above)
  have neC : ∀ b o,X.s₀.heap.get? b = some o → b ∉ X.ex → b ∉ ch := fun b o e hx hb => by
    rcases (hch b hb).1 with z | z
    · exact hx z
    · exact absurd (Nat.lt_of_lt_of_le (Heap.lt_size e) z) (Nat.lt_irrefl _)
  have cellK : ∀ x c,X.env.cells.lookup x = some c → ∀ v,s.heap.IsCell c v → h'.IsCell c v := fun x c e v ⟨o,ho,hd⟩ => by
    have nch : c ∉ ch := fun z => (hch c z).2.2.1 x c e rfl
    by_cases hc : c ∈ X.fs
    · obtain ⟨sl,q⟩ := slot c o (I.cne x c e) hc nch ho (I.freeC x c e)
      exact ⟨_,q,hd⟩
    · exact ⟨o,keep c o (I.cne x c e) hc nch ho (I.freeC x c e),hd⟩
  refine ⟨I.ok,I.os,hg,⟨fun b o e n hb hx => ?_,fun b o e n hb hx => ?_,fun b o e n hx => ?_,fun b o e hx => ?_,fun b xs e => tups b xs (I.base.tups b xs e),fun b o xs e => frzs b o xs (I.base.frzs b o xs e),fun b ps e => ?_⟩,?_,fun x c e => ?_,?_,fun x c e => ?_,fun p hp => ?_,hok,I.len⟩
  · exact keep b o (neL b o e) hb (neC b o e hx) (I.base.keep b o e n hb hx) (I.base.free b o e n hx)
  · obtain ⟨sl,e1⟩ := I.base.slot b o e n hb hx
    obtain ⟨sl',e2⟩ := slot b _ (neL b o e) hb (neC b o e hx) e1 (I.base.free b o e n hx)
    exact ⟨sl',e2⟩
  · obtain ⟨o',e1⟩ := I.base.there b o e hx
    exact free b o' (neC b o e hx) e1 (I.base.free b o e n hx)
  · obtain ⟨o',e1⟩ := I.base.there b o e hx
    exact there b o' (neC b o e hx) e1
  · obtain ⟨m1,e1⟩ := I.base.tbls b ps e
    obtain ⟨m2,e2⟩ := tbls b _ e1
    exact ⟨m1 ++ m2,by rw [e2,Array.append_assoc]⟩
  · obtain ⟨m,hn,hl⟩ := I.loc
    refine ⟨m,ns m hn,fun i x v e1 e2 e3 => ?_⟩
    obtain ⟨u,r,l⟩ := hl i x v e1 e2 e3
    refine ⟨u,r,?_⟩
    rcases l with l | ⟨k,c,e,z⟩
    · exact .inl l
    · exact .inr ⟨k,c,e,cellK x c e _ z⟩
  · obtain ⟨v,z⟩ := I.cell x c e
    exact ⟨v,cellK x c e v z⟩
  · obtain ⟨m,⟨o,_,_,ho,_⟩,_⟩ := I.loc
    exact free _ o (fun z => (hch _ z).2.1 rfl) ho I.free
  · obtain ⟨v,o,ho,hd⟩ := I.cell x c e
    exact free c o (fun z => (hch c z).2.2.1 x c e rfl) ho (I.freeC x c e)
  · obtain ⟨e,n,ne,nf,d⟩ := I.pin p hp
    have nch : p.1 ∉ ch := fun z => (hch p.1 z).2.2.2 p hp rfl
    exact ⟨keep p.1 p.2 ne nf nch e n,free p.1 p.2 nch e n,ne,nf,d⟩
theorem Inv.un {t' : Nat} (I : Inv X pins σ H s) (u : Un X.fs [] H H' s.heap h') (hok : HOk X.prog X.w H' h') : Inv X pins σ H' { s with heap := h',toks := t' } := by
  obtain ⟨m,⟨o,es,ep,ho,r⟩,_⟩ := id I.loc
  obtain ⟨sl,hL⟩ := u.any ho I.free (by simp)
  exact I.step (g':=s.gens) (d':=s.drawn) (ch:=[]) (fun _ z => nomatch z) (fun b o _ hb _ e n => u.keep b o e n hb (by simp)) (fun b o _ hb _ e n => u.slot b o e n hb (by simp)) (fun b o _ e n => u.free b o e n (by simp)) (fun b o _ e => u.there b o e (by simp)) u.tups u.frzs u.tbls (fun m' hm => by
    obtain ⟨o',es',ep',ho',r'⟩ := hm
    rw [ho] at ho'; cases ho'
    exact ⟨_,es',ep',hL,r'⟩) hok I.bare
theorem Inv.call {g' : Array GenState} {t' : Nat} {d' : Drawn} {ch : List Addr} (I : Inv X pins σ H s) (u : Un (frs X.stack) ch H H' s.heap h') (hok : HOk X.prog X.w H' h') (hg : AllBare g')
    (hch : ∀ b ∈ ch,(b ∈ X.ex ∨ X.s₀.heap.objs.size ≤ b) ∧ b ≠ X.env.locals ∧ (∀ x c,X.env.cells.lookup x = some c → c ≠ b) ∧ ∀ p ∈ X.pn ++ pins,p.1 ≠ b) :
    Inv X pins σ H' { s with heap := h',gens := g',drawn := d',toks := t' } := by
  obtain ⟨m,⟨o,es,ep,ho,r⟩,_⟩ := id I.loc
  obtain ⟨sl,hL⟩ := u.any ho I.free fun z => (hch _ z).2.1 rfl
  exact I.step (ch:=ch) hch (fun b o hL hb hc e n => u.keep b o e n (fun z => (List.mem_cons.mp (I.stkSub b z)).elim hL hb) hc) (fun b o _ _ hc e n => u.any e n hc) (fun b o hc e n => u.free b o e n hc) (fun b o hc e => u.there b o e hc) u.tups u.frzs u.tbls (fun m' hm => by
    obtain ⟨o',es',ep',ho',r'⟩ := hm
    rw [ho] at ho'; cases ho'
    exact ⟨_,es',ep',hL,r'⟩) hok hg
theorem Inv.turned {t' : Nat} {it : Addr} (I : Inv X pins σ H s) (k : ∀ b o,b ≠ it → s.heap.get? b = some o → h'.get? b = some o) (hn : H it = none) (hL : it ≠ X.env.locals)
    (h1 : it ∈ X.ex ∨ X.s₀.heap.objs.size ≤ it) (h2 : ∀ x c,X.env.cells.lookup x = some c → c ≠ it) (h3 : ∀ p ∈ X.pn ++ pins,p.1 ≠ it) : Inv X pins σ H { s with heap := h',toks := t' } := by
  have nit : ∀ b u,H b = some u → b ≠ it := fun b u e z => by rw [z,hn] at e; cases e
  refine I.step (g':=s.gens) (d':=s.drawn) (ch:=[it]) (fun b hb => ?_) (fun b o _ _ hc e _ => k b o (fun z => hc (by simp [z])) e) (fun b o _ _ hc e _ => ⟨o.slots,k b o (fun z => hc (by simp [z])) e⟩) (fun _ _ _ _ n => n)
    (fun b o hc e => ⟨o,k b o (fun z => hc (by simp [z])) e⟩) (fun _ _ e => e) (fun _ _ _ e => e) (fun b ps e => ⟨#[],by rw [e]; simp⟩) (fun m hm => ?_) (fun b u e => ?_) I.bare
  · have e : b = it := by simpa using hb
    subst e
    exact ⟨h1,hL,h2,h3⟩
  · obtain ⟨o,es,ep,ho,r⟩ := hm
    exact ⟨o,es,ep,k _ o (Ne.symm hL) ho,r⟩
  · refine (I.hok b u e).stay (fun c v hc q => k c v ?_ q) (fun _ q => q) fun _ _ q => q
    rcases hc with z | z
    · rw [z]; exact nit b u e
    · exact nit c _ z
theorem Inv.tok (I : Inv X pins σ H s) (t : Nat) : Inv X pins σ H { s with toks := t } := I.un (h':=s.heap) (t':=t) Un.refl I.hok
theorem Inv.kept {t' : Nat} (I : Inv X pins σ H s) (k : ∀ b u,s.heap.get? b = some u → h'.get? b = some u) : Inv X pins σ H { s with heap := h',toks := t' } := I.un (Un.kept k) (I.hok.kept k)
theorem Inv.laid {a : Addr} {o : HO} {t' : Nat} (I : Inv X pins σ H s) (k : ∀ b u,s.heap.get? b = some u → h'.get? b = some u) (hp : s.heap.objs.size ≤ a) (new : ObjOk X.prog X.w (upd H a o) h' a o) :
    Inv X pins σ (upd H a o) { s with heap := h',toks := t' } := I.un (Un.laid k hp (I.hok.fresh hp)) (I.hok.laid k hp new)
theorem Inv.write {x e : Addr} {o : HO} {t' : Nat} (I : Inv X pins σ H s) (mu : Mut (H x)) (he : e = x ∨ H e = some (.own x)) (k : ∀ b u,b ≠ e → s.heap.get? b = some u → h'.get? b = some u) (heo : ∃ u,h'.get? e = some u)
    (new : ObjOk X.prog X.w (upd H x o) h' x o) : Inv X pins σ (upd H x o) { s with heap := h',toks := t' } := I.un (Un.write mu he k heo) (I.hok.write mu he k heo new)
theorem Inv.pins_of {pins' : List (Addr × Obj)} (I : Inv X pins σ H s) (h : ∀ p ∈ pins',s.heap.get? p.1 = some p.2 ∧ H p.1 = none ∧ p.1 ≠ X.env.locals ∧ p.1 ∉ X.fs ∧ ∀ v,p.2.data ≠ .cell v) : Inv X pins' σ H s :=
  ⟨I.ok,I.os,I.bare,I.base,I.loc,I.cell,I.free,I.freeC,fun p hp => (List.mem_append.mp hp).elim (fun z => I.pin p (List.mem_append_left _ z)) (h p),I.hok,I.len⟩
theorem nodup_ix {N : List Str} (hN : N.Nodup) {i j : Nat} {x : Str} (a : N[i]? = some x) (b : N[j]? = some x) : i = j := by
  obtain ⟨h1,e1⟩ := List.getElem?_eq_some_iff.mp a
  obtain ⟨h2,e2⟩ := List.getElem?_eq_some_iff.mp b
  exact (List.getElem_inj hN).mp (e1.trans e2.symm)
theorem store_ok2 {M : Model} {A : Around} {E : Value → Shared → Prop} {i : Nat} {x : Str} {v : V} {u : Value} {Q : Unit → Shared → Prop} (I : Inv X pins σ H s) (hN : X.N.Nodup) (hi : X.N[i]? = some x) (hx : Loc X.env.scope x) (r : RelV v u)
    (h : ∀ s',Inv X pins (σ.set i (some v)) H s' → (∃ a,Heap.SameBut a s.heap s'.heap ∧ (a = X.env.locals ∨ X.env.cells.lookup x = some a)) → Q () s') (hf : X.fn x = true ∨ X.env.scope.names.lookup x = some .local := by first | exact .inl rfl | exact .inr rfl | assumption) : wpAny M A (storeName X.env x u) Q E s := by
  obtain ⟨m,hn,hl⟩ := id I.loc
  have hcls : (X.env.scope.kind == .class || (X.env.scope.kind == .module && X.env.locals != X.env.globals)) = false := by rw [I.ok.kind]; rfl
  have hiσ : i < σ.length := by rw [I.len]; exact (List.getElem?_eq_some_iff.mp hi).1
  have cne := I.cne
  have tracked : ∀ {a : Addr} {h' : Heap},(∃ o,s.heap.get? a = some o ∧ H a = none) → Heap.SameBut a s.heap h' → HOk X.prog X.w H h' := fun {a h'} ha hs b ob e => by
    obtain ⟨_,_,hfree⟩ := ha
    refine (I.hok b ob e).stay (fun c w' hc q => (hs.2 c ?_).trans q) (fun _ q => q) fun _ _ q => q
    rintro rfl
    rcases hc with rfl | hc
    · rw [hfree] at e; cases e
    · rw [hfree] at hc; cases hc
  rcases hx with hk | hk
  · refine wpAny_storeName_local hk hn (fun h' hn' hs => ?_) hcls
    obtain ⟨oL,_,_,hoL,_⟩ := id hn
    refine h _ ⟨I.ok,I.os,I.bare,⟨fun b o e n hb hx => ?_,fun b o e n hb hx => ?_,I.base.free,fun b o e hx => ?_,I.base.tups,I.base.frzs,I.base.tbls⟩,⟨_,hn',fun j y v' e1 e2 e3 => ?_⟩,fun y c e => ?_,I.free,I.freeC,fun p hp => ?_,tracked ⟨oL,hoL,I.free⟩ hs,by simpa using I.len⟩ ⟨_,hs,.inl rfl⟩
    · exact (hs.2 b (Nat.ne_of_lt (Nat.lt_of_lt_of_le (Heap.lt_size e) I.ok.above))).trans (I.base.keep b o e n hb hx)
    · obtain ⟨sl,e1⟩ := I.base.slot b o e n hb hx
      exact ⟨sl,(hs.2 b (Nat.ne_of_lt (Nat.lt_of_lt_of_le (Heap.lt_size e) I.ok.above))).trans e1⟩
    · obtain ⟨o',e1⟩ := I.base.there b o e hx
      exact ⟨o',(hs.2 b (Nat.ne_of_lt (Nat.lt_of_lt_of_le (Heap.lt_size e) I.ok.above))).trans e1⟩
    · by_cases hj : j = i
      · subst hj
        rw [hi] at e1; cases e1
        rw [List.getElem?_set_self hiσ] at e2
        cases e2
        exact ⟨u,r,.inl ⟨hk,by simp⟩⟩
      · rw [List.getElem?_set_ne (Ne.symm hj)] at e2
        obtain ⟨u',r',q⟩ := hl j y v' e1 e2 e3
        refine ⟨u',r',?_⟩
        rcases q with ⟨k,e⟩ | ⟨k,c,e,z⟩
        · refine .inl ⟨k,?_⟩
          have : y ≠ x := fun e => hj (nodup_ix hN e1 (e ▸ hi))
          simp [this,e]
        · exact .inr ⟨k,c,e,z.sameBut hs (cne y c e)⟩
    · obtain ⟨w',z⟩ := I.cell y c e
      exact ⟨w',z.sameBut hs (cne y c e)⟩
    · obtain ⟨e,n,ne,nf,d⟩ := I.pin p hp
      exact ⟨(hs.2 p.1 ne).trans e,n,ne,nf,d⟩
  · have hfn : X.fn x = true := by
      rcases hf with z | z
      · exact z
      · rw [z] at hk; cases hk
    obtain ⟨c,hc⟩ := I.ok.has x (.inl hk)
    obtain ⟨w',z⟩ := I.cell x c hc
    refine wpAny_storeName_cell I.ok.kind hk hc z (fun h' hc' hs => ?_)
    obtain ⟨oc,hoc,hocd⟩ := id z
    refine h { s with heap := h' } ⟨I.ok,I.os,I.bare,⟨fun b o e n hb hx => ?_,fun b o e n hb hx => ?_,I.base.free,fun b o e hx => ?_,I.base.tups,I.base.frzs,I.base.tbls⟩,⟨m,hn.sameBut hs (Ne.symm (cne x c hc)),fun j y v' e1 e2 e3 => ?_⟩,fun y c' e => ?_,I.free,I.freeC,fun p hp => ?_,tracked ⟨oc,hoc,I.freeC x c hc⟩ hs,by simpa using I.len⟩ ⟨c,hs,.inr hc⟩
    · exact (hs.2 b (Nat.ne_of_lt (Nat.lt_of_lt_of_le (Heap.lt_size e) (I.ok.cab x c hfn hc)))).trans (I.base.keep b o e n hb hx)
    · obtain ⟨sl,e1⟩ := I.base.slot b o e n hb hx
      exact ⟨sl,(hs.2 b (Nat.ne_of_lt (Nat.lt_of_lt_of_le (Heap.lt_size e) (I.ok.cab x c hfn hc)))).trans e1⟩
    · obtain ⟨o',e1⟩ := I.base.there b o e hx
      exact ⟨o',(hs.2 b (Nat.ne_of_lt (Nat.lt_of_lt_of_le (Heap.lt_size e) (I.ok.cab x c hfn hc)))).trans e1⟩
    · by_cases hj : j = i
      · subst hj
        rw [hi] at e1; cases e1
        rw [List.getElem?_set_self hiσ] at e2
        cases e2
        exact ⟨u,r,.inr ⟨.inl hk,c,hc,hc'⟩⟩
      · rw [List.getElem?_set_ne (Ne.symm hj)] at e2
        obtain ⟨u',r',q⟩ := hl j y v' e1 e2 e3
        refine ⟨u',r',?_⟩
        rcases q with q | ⟨k,c',e,z'⟩
        · exact .inl q
        · refine .inr ⟨k,c',e,z'.sameBut hs ?_⟩
          rintro rfl
          exact hj (nodup_ix hN e1 (I.ok.inj _ _ _ e hc ▸ hi))
    · by_cases hcc : c' = c
      · subst hcc; exact ⟨_,hc'⟩
      · obtain ⟨w2,z2⟩ := I.cell y c' e
        exact ⟨w2,z2.sameBut hs hcc⟩
    · obtain ⟨e,n,ne,nf,d⟩ := I.pin p hp
      refine ⟨(hs.2 p.1 ?_).trans e,n,ne,nf,d⟩
      intro q
      rw [q,hoc] at e
      have q' : oc = p.2 := Option.some.inj e
      exact d w' (by rw [← q']; exact hocd)
theorem store_ok {M : Model} {A : Around} {E : Value → Shared → Prop} {i : Nat} {x : Str} {v : V} {u : Value} {Q : Unit → Shared → Prop} (I : Inv X pins σ H s) (hN : X.N.Nodup) (hi : X.N[i]? = some x) (hx : Loc X.env.scope x) (r : RelV v u)
    (h : ∀ s',Inv X pins (σ.set i (some v)) H s' → Q () s') (hf : X.fn x = true ∨ X.env.scope.names.lookup x = some .local := by first | exact .inl rfl | exact .inr rfl | assumption) : wpAny M A (storeName X.env x u) Q E s :=
  store_ok2 I hN hi hx r (fun s' I' _ => h s' I') hf
theorem Inv.call' {s' : Shared} {ch : List Addr} (I : Inv X pins σ H s) (ho : s'.os = s.os) (u : Un (frs X.stack) ch H H' s.heap s'.heap) (hok : HOk X.prog X.w H' s'.heap) (hg : AllBare s'.gens)
    (hch : ∀ b ∈ ch,(b ∈ X.ex ∨ X.s₀.heap.objs.size ≤ b) ∧ b ≠ X.env.locals ∧ (∀ x c,X.env.cells.lookup x = some c → c ≠ b) ∧ ∀ p ∈ X.pn ++ pins,p.1 ≠ b) : Inv X pins σ H' s' := by
  obtain ⟨h',g',d',t',o'⟩ := s'
  have e : o' = s.os := ho
  subst e
  exact I.call (g':=g') (t':=t') (d':=d') u hok hg hch
end
abbrev XK := Value → Option Addr → Hp → Prop
abbrev St := List (Option V)
abbrev VK := V → Hp → Prop
abbrev TE := St → Hp → VK → Prop
abbrev TT := St → Hp → (Bool → Hp → Prop) → Prop
abbrev TA := St → Hp → (List V → Hp → Prop) → Prop
structure Ends where
  nx : St → Hp → Prop
  rt : VK
  bk : St → Hp → Prop := fun _ _ => False
  ct : St → Hp → Prop := fun _ _ => False
abbrev TS := Ends → St → Hp → Prop
def EP (X : Cx) (pins : List (Addr × Obj)) (σ : St) (Q : VK) (u : Value) (s' : Shared) : Prop := ∃ v H',Inv X pins σ H' s' ∧ RelV v u ∧ Q v H'
def TP (X : Cx) (pins : List (Addr × Obj)) (σ : St) (Q : Bool → Hp → Prop) (b : Bool) (s' : Shared) : Prop := ∃ H',Inv X pins σ H' s' ∧ Q b H'
def AP (X : Cx) (pins : List (Addr × Obj)) (σ : St) (Q : List V → Hp → Prop) (us : List Value) (s' : Shared) : Prop := ∃ vs H',Inv X pins σ H' s' ∧ Vals vs us ∧ Q vs H'
def SP (X : Cx) (pins : List (Addr × Obj)) (D : Ends) (f : Flow) (s' : Shared) : Prop :=
  match f with
  | .next => ∃ σ' H',Inv X pins σ' H' s' ∧ D.nx σ' H'
  | .brk => ∃ σ' H',Inv X pins σ' H' s' ∧ D.bk σ' H'
  | .cont => ∃ σ' H',Inv X pins σ' H' s' ∧ D.ct σ' H'
  | .ret u => ∃ v σ' H',Inv X pins σ' H' s' ∧ RelV v u ∧ D.rt v H'
def PE (X : Cx) (e : Expr) (t : TE) : Prop :=
  ∀ (pins : List (Addr × Obj)) (s : Shared) (σ : St) (H : Hp) (Q : VK),Inv X pins σ H s → t σ H Q → wpAny (model X.prog X.w) X.A (eval e X.env) (EP X pins σ Q) X.xe s
def PT (X : Cx) (e : Expr) (t : TT) : Prop :=
  ∀ (pins : List (Addr × Obj)) (s : Shared) (σ : St) (H : Hp) (Q : Bool → Hp → Prop),Inv X pins σ H s → t σ H Q → wpAny (model X.prog X.w) X.A (isTrue e X.env (eval e X.env)) (TP X pins σ Q) X.xe s
def PW (X : Cx) (e : Expr) (t : TT) : Prop :=
  ∀ (whole : Sem Value) (pins : List (Addr × Obj)) (s : Shared) (σ : St) (H : Hp) (Q : Bool → Hp → Prop),Inv X pins σ H s → t σ H Q → wpAny (model X.prog X.w) X.A (isTrue e X.env whole) (TP X pins σ Q) X.xe s
theorem PW.pt {X : Cx} {e : Expr} {t : TT} (h : PW X e t) : PT X e t := h _
def PA (X : Cx) (es : List Expr) (t : TA) : Prop :=
  ∀ (pos : Pos) (pins : List (Addr × Obj)) (s : Shared) (σ : St) (H : Hp) (Q : List V → Hp → Prop),Inv X pins σ H s → t σ H Q → wpAny (model X.prog X.w) X.A (spliced (backTo pos (starEach es X.env))) (AP X pins σ Q) X.xe s
def PS (X : Cx) (st : Stmt) (t : TS) : Prop :=
  ∀ (pins : List (Addr × Obj)) (s : Shared) (σ : St) (H : Hp) (D : Ends),Inv X pins σ H s → t D σ H → wpAny (model X.prog X.w) X.A (exec st X.env) (SP X pins D) X.xe s
def PSs (X : Cx) (st : List Stmt) (t : TS) : Prop :=
  ∀ (pins : List (Addr × Obj)) (s : Shared) (σ : St) (H : Hp) (D : Ends),Inv X pins σ H s → t D σ H → wpAny (model X.prog X.w) X.A (execs st X.env) (SP X pins D) X.xe s
theorem thn {α : Type} {t : Sem α} {Q Q' : α → Shared → Prop} {M : Model} {A : Around} {E : Value → Shared → Prop} {s : Shared} (h : wpAny M A t Q E s) (hQ : ∀ a s,Q a s → Q' a s) : wpAny M A t Q' E s := wpAny_mono h hQ fun _ _ x => x
end L2
namespace L2
open PySem PySem.Spec PyProof.Rows
section
variable {X : Cx}
def tVar (i : Nat) : TE := fun σ H Q => ∃ v,σ[i]? = some (some v) ∧ Q v H
def tC (v : V) : TE := fun _ H Q => Q v H
theorem pe_var {i : Nat} {x : Str} {pos : Pos} (hN : X.N[i]? = some x) (hv : Vis X.env.scope x) (hd : (x == ("__debug__" : Str)) = false := by decide) (hcd : (x == ("__classdict__" : Str)) = false := by decide) : PE X (.Name x pos) (tVar i) := by
  intro pins s σ H Q I h
  obtain ⟨v,e,h⟩ := h
  obtain ⟨m,hn,hl⟩ := I.loc
  obtain ⟨u,r,l⟩ := hl i x v hN e hv
  have fin : EP X pins σ Q u s := ⟨v,H,I,r,h⟩
  rcases l with ⟨hk,hm⟩ | ⟨hk,c,hc,hcell⟩
  · exact wpAny_Name (wpAny_loadName_local I.ok.kind hk hn hm fin) hd
  · rcases hk with hk | hk
    · exact wpAny_Name (wpAny_loadName_cell I.ok.kind hk hc hcell fin) hd
    · exact wpAny_Name (wpAny_loadName_free I.ok.kind hk hc hcell fin hcd) hd
theorem pe_int {i j pos} : PE X (.Constant (.int i) j pos) (tC (.int i)) := fun _ _ _ H _ I h => wpAny_Constant_int ⟨.int i,H,I.tok _,⟨_,rfl⟩,h⟩
theorem pe_bl {b j pos} : PE X (.Constant (.bool b) j pos) (tC (.bl b)) := fun _ _ _ H _ I h => Constant_bool ⟨.bl b,H,I,rfl,h⟩
theorem pe_non {j pos} : PE X (.Constant .none j pos) (tC .non) := fun _ _ _ H _ I h => Constant_none ⟨.non,H,I,rfl,h⟩
theorem pe_str {x j pos} : PE X (.Constant (.str x) j pos) (tC (.str x)) := fun _ _ _ H _ I h => Calls.Constant_str ⟨.str x,H,I.tok _,⟨_,rfl⟩,h⟩
def Gl (X : Cx) (x : Str) : Prop := X.env.kindOf x = some .globalImplicit
theorem ld_glob {E : Value → Shared → Prop} {pins : List (Addr × Obj)} {s : Shared} {σ : St} {H : Hp} {x : Str} {u : Value} {pos : Pos} {Q : Value → Shared → Prop} (I : Inv X pins σ H s) (hg : Gl X x) (hm : X.mg x = some u) (h : Q u s)
    (hd : (x == ("__debug__" : Str)) = false := by decide) : wpAny (model X.prog X.w) X.A (eval (.Name x pos) X.env) Q E s :=
  Calls.Name_function_global I.ok.kind hg (Calls.loadGlobal_global (by rw [I.ok.glob]; exact I.mod.glob.keeps I.bk) hm h) hd
theorem ld_blt {E : Value → Shared → Prop} {pins : List (Addr × Obj)} {s : Shared} {σ : St} {H : Hp} {x : Str} {u : Value} {pos : Pos} {Q : Value → Shared → Prop} (I : Inv X pins σ H s) (hg : Gl X x) (hm : X.mg x = none) (hv : bootBuiltins x = some u) (h : Q u s)
    (hn : x ≠ "__name__" := by decide) (hd : (x == ("__debug__" : Str)) = false := by decide) : wpAny (model X.prog X.w) X.A (eval (.Name x pos) X.env) Q E s := by
  obtain ⟨mb,h1,h2⟩ := I.mod.blt
  exact Calls.Name_function_global I.ok.kind hg (Calls.loadGlobal_builtin (by rw [I.ok.glob]; exact I.mod.glob.keeps I.bk) hm (by rw [I.ok.blt]; exact h1.keeps I.bk) ((h2 x hn).trans hv) h) hd
theorem pe_glob {x : Str} {v : V} {u : Value} {pos : Pos} (hg : Gl X x) (hm : X.mg x = some u) (r : RelV v u) (hd : (x == ("__debug__" : Str)) = false := by decide) : PE X (.Name x pos) (tC v) :=
  fun _ _ _ H _ I h => ld_glob I hg hm ⟨v,H,I,r,h⟩ hd
theorem pe_bltn {x : Str} {v : V} {u : Value} {pos : Pos} (hg : Gl X x) (hm : X.mg x = none) (hv : bootBuiltins x = some u) (r : RelV v u) (hn : x ≠ "__name__" := by decide) (hd : (x == ("__debug__" : Str)) = false := by decide) : PE X (.Name x pos) (tC v) :=
  fun _ _ _ H _ I h => ld_blt I hg hm hv ⟨v,H,I,r,h⟩ hn hd
variable {a b : Expr} {ta tb : TE} {pos : Pos}
def tB (t : TE) : TT := fun σ H Q => t σ H fun x H1 => ∃ c,x = .bl c ∧ Q c H1
theorem pt_val {e : Expr} {t : TE} (h : PE X e t) (he : ∀ whole,isTrue e X.env whole = (do let v ← whole; standAt e.pos; holding [v] (truthy v)) := by intro _; rfl) : PT X e (tB t) := by
  intro pins s σ H Q I hw
  refine isTrue_plain (thn (h pins s σ H _ I hw) fun v s1 ⟨x,H1,I1,r1,q1⟩ => ?_) (he _)
  obtain ⟨d,rfl,q⟩ := q1
  cases r1
  exact wpAny_truthy_bool ⟨H1,I1,q⟩
variable {tA tB' : TT} {rest : List Expr}
def tAnd (t u : TT) : TT := fun σ H Q => t σ H fun c H1 => if c = true then u σ H1 Q else Q false H1
def tOr (t u : TT) : TT := fun σ H Q => t σ H fun c H1 => if c = true then Q true H1 else u σ H1 Q
def tNot (t : TT) : TT := fun σ H Q => t σ H fun c H1 => Q (!c) H1
theorem pw_and1 (ha : PT X a tA) : PW X (.BoolOp .And [a] pos) tA := by
  intro wh pins s σ H Q I h
  refine isTrue_and (thn (ha pins s σ H Q I h) fun c s1 e => ?_)
  cases c with
  | true => exact isTrue_and_nil e
  | false => exact e
theorem pw_or1 (ha : PT X a tA) : PW X (.BoolOp .Or [a] pos) tA := by
  intro wh pins s σ H Q I h
  refine isTrue_or (thn (ha pins s σ H Q I h) fun c s1 e => ?_)
  cases c with
  | false => exact isTrue_or_nil e
  | true => exact e
theorem pw_and (ha : PT X a tA) (hb : PW X (.BoolOp .And (b :: rest) pos) tB') : PW X (.BoolOp .And (a :: b :: rest) pos) (tAnd tA tB') := by
  intro wh pins s σ H Q I h
  refine isTrue_and (thn (ha pins s σ H _ I h) fun c s1 ⟨H1,I1,q1⟩ => ?_)
  cases c with
  | true => exact hb wh pins s1 σ H1 Q I1 q1
  | false => exact ⟨H1,I1,q1⟩
theorem pw_or (ha : PT X a tA) (hb : PW X (.BoolOp .Or (b :: rest) pos) tB') : PW X (.BoolOp .Or (a :: b :: rest) pos) (tOr tA tB') := by
  intro wh pins s σ H Q I h
  refine isTrue_or (thn (ha pins s σ H _ I h) fun c s1 ⟨H1,I1,q1⟩ => ?_)
  cases c with
  | true => exact ⟨H1,I1,q1⟩
  | false => exact hb wh pins s1 σ H1 Q I1 q1
theorem pt_not (ha : PT X a tA) : PT X (.UnaryOp .Not a pos) (tNot tA) := by
  intro pins s σ H Q I h
  exact isTrue_not (ha pins s σ H (fun c H1 => Q (!c) H1) I h)
def tAndV (ta tb : TE) : TE := fun σ H Q => ta σ H fun x H1 => ∃ c,x = .bl c ∧ if c = true then tb σ H1 Q else Q (.bl false) H1
def tOrV (ta tb : TE) : TE := fun σ H Q => ta σ H fun x H1 => ∃ c,x = .bl c ∧ if c = true then Q (.bl true) H1 else tb σ H1 Q
def tNotV (ta : TE) : TE := fun σ H Q => ta σ H fun x H1 => ∃ c,x = .bl c ∧ Q (.bl (!c)) H1
theorem pe_one {op} {t : TE} (h : PE X a t) : PE X (.BoolOp op [a] pos) t := fun pins s σ H Q I hw => BoolOp_one (h pins s σ H Q I hw)
theorem pe_and (ha : PE X a ta) (hb : PE X (.BoolOp .And (b :: rest) pos) tb) : PE X (.BoolOp .And (a :: b :: rest) pos) (tAndV ta tb) := by
  intro pins s σ H Q I h
  refine BoolOp_and (thn (ha pins s σ H _ I h) fun v s1 ⟨x,H1,I1,r1,q1⟩ => ?_)
  obtain ⟨c,rfl,q1⟩ := q1
  cases r1
  refine wpAny_truthy_bool ?_
  cases c with
  | true => exact hb pins s1 σ H1 Q I1 q1
  | false => exact ⟨.bl false,H1,I1,rfl,q1⟩
theorem pe_or (ha : PE X a ta) (hb : PE X (.BoolOp .Or (b :: rest) pos) tb) : PE X (.BoolOp .Or (a :: b :: rest) pos) (tOrV ta tb) := by
  intro pins s σ H Q I h
  refine BoolOp_or (thn (ha pins s σ H _ I h) fun v s1 ⟨x,H1,I1,r1,q1⟩ => ?_)
  obtain ⟨c,rfl,q1⟩ := q1
  cases r1
  refine wpAny_truthy_bool ?_
  cases c with
  | false => exact hb pins s1 σ H1 Q I1 q1
  | true => exact ⟨.bl true,H1,I1,rfl,q1⟩
theorem pe_not (ha : PE X a ta) : PE X (.UnaryOp .Not a pos) (tNotV ta) := by
  intro pins s σ H Q I h
  refine UnaryOp_ (thn (ha pins s σ H _ I h) fun v s1 ⟨x,H1,I1,r1,q1⟩ => ?_)
  obtain ⟨c,rfl,q1⟩ := q1
  cases r1
  exact not_of (wpAny_truthy_bool ⟨.bl (!c),H1,I1,rfl,q1⟩)
def tIf (t : TT) (ta tb : TE) : TE := fun σ H Q => t σ H fun c H1 => if c = true then ta σ H1 Q else tb σ H1 Q
theorem pe_ifExp {c : Expr} (hc : PT X c tA) (ha : PE X a ta) (hb : PE X b tb) : PE X (.IfExp c a b pos) (tIf tA ta tb) := by
  intro pins s σ H Q I h
  refine wpAny_IfExp (thn (hc pins s σ H _ I h) fun d s1 ⟨H1,I1,q1⟩ => ?_)
  cases d with
  | true => exact ha pins s1 σ H1 Q I1 q1
  | false => exact hb pins s1 σ H1 Q I1 q1
end
end L2
namespace L2
open PySem PySem.Spec PyProof.Rows
def SqL (K : PySem.W.Frag) (H : Hp) (a : Addr) (xs : List V) : Prop :=
  Rd H a (.lst xs) ∨
    ∃ (o : Obj) (its : Array Value) (n : Nat),K.lookup a = some o ∧ o.cls = .type "list" ∧ o.dict = none ∧ o.data = .seq its n ∧ its.size ≤ sizeLine ∧ Vals xs its.toList
def SqT (K : PySem.W.Frag) (H : Hp) (a : Addr) (xs : List V) : Prop :=
  Rd H a (.tup xs) ∨
    ∃ (o : Obj) (its : Array Value) (n : Nat),K.lookup a = some o ∧ o.cls = .type "tuple" ∧ o.data = .seq its n ∧ its.size ≤ sizeLine ∧ Vals xs its.toList
def absV : Value → Option V
  | .none => some .non
  | .bool b => some (.bl b)
  | .int i _ => some (.int i)
  | .str x _ => some (.str x)
  | .bytes b _ => some (.byt b)
  | .float b _ => some (.flt b)
  | .ref a => some (.ref a)
  | .type n => some (.ty n)
  | _ => none
theorem RelV.abs {x : V} {u : Value} (r : RelV x u) : absV u = some x := by
  cases x with
  | non => cases r; rfl
  | bl _ => cases r; rfl
  | int _ => obtain ⟨t,rfl⟩ := r; rfl
  | str _ => obtain ⟨t,rfl⟩ := r; rfl
  | byt _ => obtain ⟨t,rfl⟩ := r; rfl
  | flt _ => obtain ⟨t,rfl⟩ := r; rfl
  | ref _ => cases r; rfl
  | ty _ => cases r; rfl
theorem RelV.inj {x y : V} {u : Value} (r : RelV x u) (q : RelV y u) : x = y := Option.some.inj (r.abs.symm.trans q.abs)
theorem Vals.inj : ∀ {xs ys : List V} {us : List Value},Vals xs us → Vals ys us → xs = ys
  | _,_,_,.nil,.nil => rfl
  | _,_,_,.cons r t,.cons r' t' => by rw [r.inj r',Vals.inj t t']
section
variable {X : Cx} {pins : List (Addr × Obj)} {σ : St} {H : Hp} {s : Shared} {a : Addr} {xs ys : List V}
theorem SqL.of {K : PySem.W.Frag} (h : H a = some (.lst xs)) : SqL K H a xs := .inl (.inl h)
theorem SqT.of {K : PySem.W.Frag} (h : H a = some (.tup xs)) : SqT K H a xs := .inl (.inl h)
theorem Inv.list (I : Inv X pins σ H s) (h : SqL X.K H a xs) : ∃ its : List Value,Vals xs its ∧ PlainL s.heap a its.toArray ∧ xs.length ≤ sizeLine := by
  rcases h with h | ⟨o,its,n,hk,hc,hd,hs,hz,r⟩
  · obtain ⟨z,its,n,r,e⟩ := h.ok I.hok
    exact ⟨its,r,⟨_,n,e,rfl,rfl,rfl⟩,z⟩
  · refine ⟨its.toList,r,⟨o,n,I.kIn a o hk,hc,hd,by simpa using hs⟩,?_⟩
    have e := r.length
    simp only [Array.length_toList] at e
    lia
theorem Inv.tuple (I : Inv X pins σ H s) (h : SqT X.K H a xs) : ∃ its : List Value,Vals xs its ∧ IsTup s.heap a its.toArray ∧ xs.length ≤ sizeLine := by
  rcases h with h | ⟨o,its,n,hk,hc,hs,hz,r⟩
  · obtain ⟨z,its,r,p⟩ := h.ok I.hok
    exact ⟨its,r,p,z⟩
  · refine ⟨its.toList,r,⟨o,I.kIn a o hk,hc,n,by simpa using hs⟩,?_⟩
    have e := r.length
    simp only [Array.length_toList] at e
    lia
theorem Inv.list_inj (I : Inv X pins σ H s) (h : SqL X.K H a xs) (h' : SqL X.K H a ys) : xs = ys := by
  obtain ⟨its,r,⟨o,n,e,_,_,d⟩,_⟩ := I.list h
  obtain ⟨its',r',⟨o',n',e',_,_,d'⟩,_⟩ := I.list h'
  rw [e] at e'; cases e'
  rw [d] at d'
  injection d' with d1 _
  have : its = its' := by simpa using congrArg Array.toList d1
  subst this
  exact r.inj r'
theorem Inv.tuple_inj (I : Inv X pins σ H s) (h : SqT X.K H a xs) (h' : SqT X.K H a ys) : xs = ys := by
  obtain ⟨its,r,⟨o,e,_,n,d⟩,_⟩ := I.tuple h
  obtain ⟨its',r',⟨o',e',_,n',d'⟩,_⟩ := I.tuple h'
  rw [e] at e'; cases e'
  rw [d] at d'
  injection d' with d1 _
  have : its = its' := by simpa using congrArg Array.toList d1
  subst this
  exact r.inj r'
end
abbrev Cx.wish (X : Cx) (E : Value → Shared → Prop) : Cx := { X with xe := E }
abbrev Cx.nox (X : Cx) : Cx := X.wish fun _ _ => False
theorem Cx.Ok.wish {X : Cx} (ok : X.Ok) (E : Value → Shared → Prop) : (X.wish E).Ok :=
  ⟨ok.mod,ok.kind,ok.glob,ok.blt,ok.above,ok.inj,ok.has,ok.cab,ok.hd,ok.frames,ok.stk,ok.exf,ok.bs,ok.bsz,ok.noex,ok.exfs,ok.funs,ok.frf⟩
theorem Cx.Ok.unwish {X : Cx} {E : Value → Shared → Prop} (ok : (X.wish E).Ok) : X.Ok :=
  ⟨ok.mod,ok.kind,ok.glob,ok.blt,ok.above,ok.inj,ok.has,ok.cab,ok.hd,ok.frames,ok.stk,ok.exf,ok.bs,ok.bsz,ok.noex,ok.exfs,ok.funs,ok.frf⟩
section
variable {X : Cx} {pins : List (Addr × Obj)} {σ : St} {H : Hp} {s : Shared} {E : Value → Shared → Prop}
theorem Inv.wish (I : Inv X pins σ H s) (E : Value → Shared → Prop) : Inv (X.wish E) pins σ H s := ⟨I.ok.wish E,I.os,I.bare,I.base,I.loc,I.cell,I.free,I.freeC,I.pin,I.hok,I.len⟩
theorem Inv.unwish (I : Inv (X.wish E) pins σ H s) : Inv X pins σ H s := ⟨I.ok.unwish,I.os,I.bare,I.base,I.loc,I.cell,I.free,I.freeC,I.pin,I.hok,I.len⟩
theorem SP.unwish {D : Ends} {f : Flow} {s' : Shared} (h : SP (X.wish E) pins D f s') : SP X pins D f s' := by
  cases f with
  | next => obtain ⟨σ',H',I,q⟩ := h; exact ⟨σ',H',I.unwish,q⟩
  | brk => obtain ⟨σ',H',I,q⟩ := h; exact ⟨σ',H',I.unwish,q⟩
  | cont => obtain ⟨σ',H',I,q⟩ := h; exact ⟨σ',H',I.unwish,q⟩
  | ret u => obtain ⟨v,σ',H',I,r,q⟩ := h; exact ⟨v,σ',H',I.unwish,r,q⟩
end
section
variable {X : Cx} {st : Stmt} {rest : List Stmt} {t u : TS} {e : Expr} {te : TE} {pos : Pos}
def tNext : TS := fun D σ H => D.nx σ H
def tSeq (t u : TS) : TS := fun D σ H => t { D with nx := u D } σ H
theorem pss_nil : PSs X [] tNext := fun _ _ σ H _ I h => wpAny_execs_nil ⟨σ,H,I,h⟩
theorem pss_cons (h1 : PS X st t) (h2 : PSs X rest u) : PSs X (st :: rest) (tSeq t u) := by
  intro pins s σ H D I h
  refine wpAny_execs_cons (thn (h1 pins s σ H { D with nx := u D } I h) fun f s1 q => ?_)
  cases f with
  | next =>
    obtain ⟨σ',H',I',q⟩ := q
    exact h2 pins s1 σ' H' D I' q
  | ret v => exact q
  | brk => exact q
  | cont => exact q
theorem pss_one (h1 : PS X st t) : PSs X [st] t := by
  intro pins s σ H D I h
  refine wpAny_execs_cons (thn (h1 pins s σ H D I h) fun f s1 q => ?_)
  cases f with
  | next => exact wpAny_execs_nil q
  | ret v => exact q
  | brk => exact q
  | cont => exact q
theorem ps_pass : PS X (.Pass pos) tNext := fun _ _ σ H _ I h => wpAny_Pass ⟨σ,H,I,h⟩
theorem Inv.quiet {pins : List (Addr × Obj)} {σ : St} {H : Hp} {s : Shared} (I : Inv X pins σ H s) : interactive X.env = false := by simp [interactive,I.ok.kind]
def tDrop (te : TE) : TS := fun D σ H => te σ H fun _ H1 => D.nx σ H1
theorem ps_expr (he : PE X e te) (hs : swapsWith e none pos.line X.env = pure false := by rfl) : PS X (.Expr e pos) (tDrop te) := by
  intro pins s σ H D I h
  exact wpAny_Expr_any (thn (he pins s σ H _ I h) fun v s1 ⟨x,H1,I1,r1,q1⟩ => ⟨σ,H1,I1,q1⟩) I.quiet hs
def tRet (te : TE) : TS := fun D σ H => te σ H D.rt
theorem ps_ret (he : PE X e te) : PS X (.Return (some e) pos) (tRet te) := by
  intro pins s σ H D I h
  exact wpAny_Return_some (thn (he pins s σ H _ I h) fun v s1 ⟨x,H1,I1,r1,q1⟩ => ⟨x,σ,H1,I1,r1,q1⟩)
def tIfS (c : TT) (t u : TS) : TS := fun D σ H => c σ H fun b H1 => if b = true then t D σ H1 else u D σ H1
theorem ps_if {c : Expr} {a b : List Stmt} {tc : TT} (hc : PT X c tc) (ha : PSs X a t) (hb : PSs X b u) : PS X (.If c a b pos) (tIfS tc t u) := by
  intro pins s σ H D I h
  refine wpAny_If (thn (hc pins s σ H _ I h) fun d s1 ⟨H1,I1,q1⟩ => ?_)
  cases d with
  | true => exact ha pins s1 σ H1 D I1 q1
  | false => exact hb pins s1 σ H1 D I1 q1
end
abbrev TG := V → St → Hp → (St → Hp → Prop) → Prop
abbrev TGs := List V → St → Hp → (St → Hp → Prop) → Prop
def PG (X : Cx) (target : Expr) (t : TG) : Prop :=
  ∀ (pins : List (Addr × Obj)) (s : Shared) (σ : St) (H : Hp) (v : V) (u : Value) (Q : St → Hp → Prop),Inv X pins σ H s → RelV v u → t v σ H Q →
    wpAny (model X.prog X.w) X.A (assign target X.env u) (fun _ s' => ∃ σ' H',Inv X pins σ' H' s' ∧ Q σ' H') X.xe s
def PGs (X : Cx) (ts : List Expr) (t : TGs) : Prop :=
  ∀ (pins : List (Addr × Obj)) (s : Shared) (σ : St) (H : Hp) (vs : List V) (us : List Value) (Q : St → Hp → Prop),Inv X pins σ H s → Vals vs us → t vs σ H Q →
    wpAny (model X.prog X.w) X.A (assignInOrder ((assignEach ts X.env).map (·.2)) us) (fun _ s' => ∃ σ' H',Inv X pins σ' H' s' ∧ Q σ' H') X.xe s
abbrev TSet := V → V → V → Hp → (Hp → Prop) → Prop
def PSet (X : Cx) (t : TSet) : Prop :=
  ∀ (pins : List (Addr × Obj)) (s : Shared) (σ : St) (H : Hp) (o i v : V) (ov iv u : Value) (Q : Hp → Prop),Inv X pins σ H s → RelV o ov → RelV i iv → RelV v u → t o i v H Q →
    wpAny (model X.prog X.w) X.A (setItem ov iv u) (fun _ s' => ∃ H',Inv X pins σ H' s' ∧ Q H') X.xe s
section
variable {X : Cx} {pos : Pos}
def gName (i : Nat) : TG := fun v σ H Q => Q (σ.set i (some v)) H
theorem pg_name {i : Nat} {x : Str} (hN : X.N.Nodup) (hi : X.N[i]? = some x) (hx : Loc X.env.scope x) (hf : X.fn x = true ∨ X.env.scope.names.lookup x = some .local := by first | exact .inl rfl | exact .inr rfl | assumption) : PG X (.Name x pos) (gName i) := by
  intro pins s σ H v u Q I r h
  exact wpAny_assign_Name (store_ok I hN hi hx r (fun s' I' => ⟨_,H,I',h⟩) hf)
def gNil : TGs := fun vs σ H Q => vs = [] ∧ Q σ H
def gCons (t : TG) (u : TGs) : TGs := fun vs σ H Q => ∃ v r,vs = v :: r ∧ t v σ H fun σ' H' => u r σ' H' Q
theorem pgs_nil : PGs X [] gNil := by
  intro pins s σ H vs us Q I r h
  obtain ⟨e,h⟩ := h
  subst e
  cases r
  exact assignInOrder_nil ⟨σ,H,I,h⟩
theorem pgs_cons {e : Expr} {es : List Expr} {t : TG} {u : TGs} (h1 : PG X e t) (h2 : PGs X es u)
    (hs : (assignEach (e :: es) X.env).map (·.2) = assign e X.env :: (assignEach es X.env).map (·.2) := by rfl) : PGs X (e :: es) (gCons t u) := by
  intro pins s σ H vs us Q I r h
  obtain ⟨v,vr,e1,h⟩ := h
  subst e1
  cases r with
  | cons r rr =>
    rw [hs]
    refine assignInOrder_cons (thn (h1 pins s σ H _ _ _ I r h) fun _ s1 ⟨σ1,H1,I1,q1⟩ => ?_)
    exact h2 pins s1 σ1 H1 _ _ Q I1 rr q1
def gTup (K : PySem.W.Frag) (n : Nat) (t : TGs) : TG := fun v σ H Q => ∃ a xs,v = .ref a ∧ SqT K H a xs ∧ xs.length = n ∧ t xs σ H Q
theorem pg_tup {es : List Expr} {k : Nat} {t : TGs} {n : Nat} (hc : X.calm = true) (h : PGs X es t)
    (hn : (assignEach es X.env).length = n := by rfl) (hst : (assignEach es X.env).findIdx? (·.1) = none := by rfl) : PG X (.Tuple es k pos) (gTup X.K n t) := by
  intro pins s σ H v u Q I r hw
  obtain ⟨a,xs,e1,hq,hl,hw⟩ := hw
  subst e1
  cases r
  obtain ⟨its,rv,ht,hz⟩ := I.tuple hq
  refine assign_Tuple_tuple (I.ok.hd hc) ht (by simp [hn,← hl,rv.length]) hst fun h' hx => ?_
  have I1 : Inv X pins σ H { s with heap := h' } := I.kept (t':=s.toks) fun b o e => hx b o (Nat.ne_of_lt (Heap.lt_size e)) e
  exact h pins _ σ H xs _ Q I1 (by simpa using rv) hw
def gSub (to ti : TE) (t : TSet) : TG := fun v σ H Q => to σ H fun o H1 => ti σ H1 fun i H2 => t o i v H2 fun H3 => Q σ H3
theorem pg_sub {o i : Expr} {to ti : TE} {t : TSet} (ho : PE X o to) (hi : PE X i ti) (hs : PSet X t)
    (ha : ∀ v,assign (.Subscript o i pos) X.env v = (do
      let ov ← holding [v] (eval o X.env)
      let iv ← holding [v,ov] (eval i X.env)
      standAt pos
      holding [v,ov,iv] (setItem ov iv v)
      release [v,ov,iv] []) := by intro _; rfl) : PG X (.Subscript o i pos) (gSub to ti t) := by
  intro pins s σ H v u Q I r h
  rw [ha]
  refine wpAny_bind (wpAny_holding (thn (ho pins s σ H _ I h) fun ov s1 ⟨x,H1,I1,r1,q1⟩ => ?_))
  refine wpAny_bind (wpAny_holding (thn (hi pins s1 σ H1 _ I1 q1) fun iv s2 ⟨y,H2,I2,r2,q2⟩ => ?_))
  refine wpAny_bind (wpAny_standAt (wpAny_bind (wpAny_holding (thn (hs pins s2 σ H2 x y v ov iv u _ I2 r1 r2 r q2) fun _ s3 ⟨H3,I3,q3⟩ => ?_))))
  exact wpAny_release ⟨σ,H3,I3,q3⟩
def tAsg (te : TE) (g : TG) : TS := fun D σ H => te σ H fun x H1 => g x σ H1 D.nx
theorem ps_asg {tg e : Expr} {te : TE} {g : TG} (he : PE X e te) (hg : PG X tg g) (hs : swapsWithSole [tg] e pos.line X.env = pure false := by rfl) (hw : swappedStores [tg] e X.env = pure none := by rfl)
    (h1 : (assignEach [tg] X.env).map (·.2) = [assign tg X.env] := by rfl) : PS X (.Assign [tg] e pos) (tAsg te g) := by
  intro pins s σ H D I h
  refine wpAny_Assign_stores (thn (he pins s σ H _ I h) fun v s1 ⟨x,H1,I1,r1,q1⟩ => ?_) hs hw
  rw [h1]
  exact thn (hg pins s1 σ H1 x v _ I1 r1 q1) fun _ s2 q => q
theorem ps_set {i : Nat} {x : Str} {e : Expr} {te : TE} {pos' : Pos} (hN : X.N.Nodup) (hi : X.N[i]? = some x) (hx : Loc X.env.scope x) (he : PE X e te) (hs : swapsWith e (some (.Name x pos')) pos.line X.env = pure false := by rfl) (hf : X.fn x = true ∨ X.env.scope.names.lookup x = some .local := by first | exact .inl rfl | exact .inr rfl | assumption) :
    PS X (.Assign [.Name x pos'] e pos) (tAsg te (gName i)) := by
  intro pins s σ H D I h
  refine wpAny_Assign_Name (thn (he pins s σ H _ I h) fun v s1 ⟨y,H1,I1,r1,q1⟩ => ?_) hs
  exact store_ok I1 hN hi hx r1 (fun s2 I2 => ⟨_,H1,I2,q1⟩) hf
def tPar (i j : Nat) (ta : TA) : TS := fun D σ H => ta σ H fun vs H1 => ∃ v w,vs = [v,w] ∧ D.nx ((σ.set i (some v)).set j (some w)) H1
theorem ps_par {i j : Nat} {x y : Str} {a b : Expr} {ta : TA} {px py pt : Pos} {kt k2 pt2} (hc : X.calm = true) (hN : X.N.Nodup) (hi : X.N[i]? = some x) (hj : X.N[j]? = some y) (hij : i ≠ j)
    (hx : X.env.scope.names.lookup x = some .local) (hy : X.env.scope.names.lookup y = some .local) (ha : PA X [a,b] ta)
    (hw : swappedStores [.Tuple [.Name x px,.Name y py] kt pt] (.Tuple [a,b] k2 pt2) X.env = pure (some [x,y]))
    (hs : swapsWithSole [.Tuple [.Name x px,.Name y py] kt pt] (.Tuple [a,b] k2 pt2) pos.line X.env = pure false := by rfl) :
    PS X (.Assign [.Tuple [.Name x px,.Name y py] kt pt] (.Tuple [a,b] k2 pt2) pos) (tPar i j ta) := by
  intro pins s σ H D I h
  rw [exec_Assign_arm]
  refine wpAny_bind (wpAny_standAt ?_)
  rw [hs]
  refine wpAny_bind (wpAny_pure ?_)
  rw [if_neg (by decide)]
  refine wpAny_bind (Tuple_ (thn (ha _ pins s σ H _ I h) fun us s1 ⟨vs,H1,I1,r1,q1⟩ => ?_))
  obtain ⟨v,w,e1,q1⟩ := q1
  subst e1
  obtain ⟨u1,u2,rfl,rv,rw'⟩ : ∃ u1 u2,us = [u1,u2] ∧ RelV v u1 ∧ RelV w u2 := by
    cases r1 with
    | cons p q =>
      cases q with
      | cons p' q' =>
        cases q'
        exact ⟨_,_,rfl,p,p'⟩
  refine wpAny_newObj_type ?_ (by show 2 ≤ sizeLine; decide)
  have I2 : Inv X pins σ H1 { s1 with heap := s1.heap.push { cls := .type "tuple",data := .seq [u1,u2].toArray } } := I1.kept (t':=s1.toks) fun b o e => Heap.get?_push_of_some _ e
  rw [hw]
  refine wpAny_bind (wpAny_pure ?_)
  show wpAny (model X.prog X.w) X.A (do rule "assign.swapped-stores"; let items ← unpackItems (.ref s1.heap.objs.size) 2 none; assignInOrder [fun v => bindName X.env y v,fun v => bindName X.env x v] items.reverse; pure Flow.next) _ _ _
  refine wpAny_bind (wpAny_rule (wpAny_bind (unpackItems_tuple (items:=#[u1,u2]) (I.ok.hd hc) (IsTup.new s1.heap _) fun h' hx' => ?_)))
  have I3 := I2.kept (h':=h') (t':=s1.toks) fun b o e => hx' b o (Nat.ne_of_lt (Heap.lt_size e)) e
  show wpAny _ _ (assignInOrder [fun v => bindName X.env y v,fun v => bindName X.env x v] [u2,u1] >>= fun _ => pure Flow.next) _ _ _
  refine wpAny_bind (assignInOrder_cons (wpAny_bindName (store_ok I3 hN hj (.inl hy) rw' (fun s2 I4 => ?_) (.inr hy))))
  refine assignInOrder_cons (wpAny_bindName (store_ok I4 hN hi (.inl hx) rv (fun s3 I5 => assignInOrder_nil (wpAny_pure ?_)) (.inr hx)))
  rw [List.set_comm _ _ (Ne.symm hij)] at I5
  exact ⟨_,H1,I5,q1⟩
end
section
variable {X : Cx} {pos : Pos}
def tWhile (c : TT) (tb : TS) : TS := fun D σ H => ∃ W : Nat → St → Hp → Prop,(∃ m,W m σ H) ∧ ∀ m σ H,W m σ H →
  c σ H fun b H1 => if b = true then ∃ N : St → Hp → Prop,(∀ σ' H',N σ' H' → ∃ m',m' < m ∧ W m' σ' H') ∧ tb { D with nx := N,ct := N,bk := D.nx } σ H1 else D.nx σ H1
theorem ps_while {c : Expr} {body : List Stmt} {tc : TT} {tb : TS} (hp : PassesOwn (model X.prog X.w) X.A X.env X.xe) (hc : PT X c tc) (hb : PSs X body tb) : PS X (.While c body [] pos) (tWhile tc tb) := by
  intro pins s σ H D I h
  obtain ⟨W,⟨m0,w0⟩,turn⟩ := h
  refine wpAny_While (codeAny_whileLoop (fun n s' => ∃ σ' H',Inv X pins σ' H' s' ∧ W n σ' H') ?_ m0 ⟨σ,H,I,w0⟩)
  rintro n s1 ⟨σ1,H1,I1,w1⟩
  refine wpAny_passesOwn hp (thn (hc pins s1 σ1 H1 _ I1 (turn n σ1 H1 w1)) fun b s2 ⟨H2,I2,q2⟩ => ?_)
  cases b with
  | true =>
    obtain ⟨N,hN,q2⟩ := q2
    rw [if_pos rfl]
    refine wpAny_passesOwn hp (thn (hb pins s2 σ1 H2 _ I2 q2) fun f s3 q3 => ?_)
    cases f with
    | next =>
      obtain ⟨σ3,H3,I3,n3⟩ := q3
      obtain ⟨m',hm,w3⟩ := hN σ3 H3 n3
      exact ⟨m',hm,σ3,H3,I3,w3⟩
    | cont =>
      obtain ⟨σ3,H3,I3,n3⟩ := q3
      obtain ⟨m',hm,w3⟩ := hN σ3 H3 n3
      exact ⟨m',hm,σ3,H3,I3,w3⟩
    | brk => exact q3
    | ret v => exact q3
  | false =>
    rw [if_neg Bool.false_ne_true]
    exact wpAny_execs_nil ⟨σ1,H2,I2,q2⟩
end
structure It where
  go : Nat → Hp → Prop
  yld : Nat → Hp → V → Hp → Prop
  stop : Nat → Hp → Prop
def FpOk (X : Cx) (pins : List (Addr × Obj)) (H : Hp) (b : Addr) : Prop :=
  H b = none ∧ b ≠ X.env.locals ∧ b ∉ X.fs ∧ (b ∈ X.ex ∨ X.s₀.heap.objs.size ≤ b) ∧ (∀ x c,X.env.cells.lookup x = some c → c ≠ b) ∧ ∀ p ∈ X.pn ++ pins,p.1 ≠ b
theorem Inv.fpOk {X : Cx} {pins : List (Addr × Obj)} {σ : St} {H H' : Hp} {s : Shared} {b : Addr} (I : Inv X pins σ H s) (hb : s.heap.objs.size ≤ b) (hn : H' b = none) : FpOk X pins H' b := by
  refine ⟨hn,Nat.ne_of_gt (Nat.lt_of_lt_of_le I.lt hb),I.nofs hb,.inr (Nat.le_trans I.sz hb),fun x c e z => ?_,fun p hp z => ?_⟩
  · obtain ⟨v,q⟩ := I.cell x c e
    exact absurd (Nat.lt_of_lt_of_le q.lt (by rw [z]; exact hb)) (Nat.lt_irrefl _)
  · exact absurd (Nat.lt_of_lt_of_le (Heap.lt_size (I.pin p hp).1) (by rw [z]; exact hb)) (Nat.lt_irrefl _)
structure Turn (P : Program) (w : World) (K : PySem.W.Frag) (tg : Expr) (J : It) (fp : List Addr) (it : Addr) (tn : Nat → Heap → Prop) : Prop where
  mem : it ∈ fp
  obj : ∀ i h,tn i h → ∀ b ∈ fp,∃ o,h.get? b = some o ∧ ∀ v,o.data ≠ .cell v
  keep : ∀ i h h',tn i h → (∀ b ∈ fp,∀ o,h.get? b = some o → h'.get? b = some o) → tn i h'
  item : ∀ (X : Cx),X.prog = P → X.w = w → X.K = K → X.calm = true → ∀ (i : Nat) (pins : List (Addr × Obj)) (s : Shared) (σ : St) (H : Hp) (E : Value → Shared → Prop),Inv X pins σ H s → (∀ b ∈ fp,FpOk X pins H b) → tn i s.heap → J.go i H →
    wpAny (model P w) X.A (pyNext (.ref it)) (fun r s1 => ∃ u,r = some u ∧
      wpAny (model P w) X.A (letOwnedTupleGo tg (.ref it) u) (fun _ s2 => ∃ x H',Inv X pins σ H' s2 ∧ RelV x u ∧ J.yld i H x H' ∧ tn (i + 1) s2.heap ∧ ∀ b ∈ fp,H' b = none) E s1) E s
  done : ∀ (X : Cx),X.prog = P → X.w = w → X.K = K → X.calm = true → ∀ (i : Nat) (pins : List (Addr × Obj)) (s : Shared) (σ : St) (H : Hp) (E : Value → Shared → Prop),Inv X pins σ H s → (∀ b ∈ fp,FpOk X pins H b) → tn i s.heap → J.stop i H →
    wpAny (model P w) X.A (pyNext (.ref it)) (fun r s1 => r = none ∧ Inv X pins σ H s1) E s
  self : ∀ (A : Around) (i : Nat) (s : Shared) (Q : Value → Shared → Prop) (E : Value → Shared → Prop),tn i s.heap → Q (.ref it) s → wpAny (model P w) A (pyIter (.ref it)) Q E s
abbrev TI := St → Hp → (It → Hp → Prop) → Prop
def PIE (X : Cx) (pins : List (Addr × Obj)) (σ : St) (tg : Expr) (R : It → Hp → Prop) (itv : Value) (s2 : Shared) : Prop :=
  ∃ (it : Addr) (fp : List Addr) (tn : Nat → Heap → Prop) (J : It) (H' : Hp),itv = .ref it ∧ Inv X pins σ H' s2 ∧ Turn X.prog X.w X.K tg J fp it tn ∧ tn 0 s2.heap ∧ (∀ b ∈ fp,FpOk X pins H' b) ∧ R J H'
def PI (X : Cx) (tg iter : Expr) (wi : TI) : Prop :=
  ∀ (pins : List (Addr × Obj)) (s : Shared) (σ : St) (H : Hp) (R : It → Hp → Prop),Inv X pins σ H s → wi σ H R →
    wpAny (model X.prog X.w) X.A (eval iter X.env) (fun v s1 => wpAny (model X.prog X.w) X.A (pyIter v) (PIE X pins σ tg R) X.xe s1) X.xe s
theorem go_of {M : Model} {A : Around} {E : Value → Shared → Prop} {s : Shared} {tg : Expr} {it : Addr} {u : Value} {o : Obj} {n : String} {vs : Array Value} {Q : Unit → Shared → Prop} (ho : s.heap.get? it = some o) (hc : o.cls = .type n) (hd : o.data = .fields vs)
    (hn : ["enumerate","zip","dict_itemiterator","dict_reverseitemiterator","odict_iterator","itertools.zip_longest","itertools.pairwise"].contains n = false) (hQ : Q () s) : wpAny M A (letOwnedTupleGo tg (.ref it) u) Q E s := by
  unfold letOwnedTupleGo
  cases tg <;> first
    | exact wpAny_pure hQ
    | (cases u <;> first
        | exact wpAny_pure hQ
        | (refine wpAny_bind (wpAny_load ho ?_)
           rw [hc,hd]
           show wpAny M A (if (["enumerate","zip","dict_itemiterator","dict_reverseitemiterator","odict_iterator","itertools.zip_longest","itertools.pairwise"].contains n && vs[0]? == some (rawInt _)) = true then _ else _) Q E s
           rw [if_neg (by intro h; rw [hn,Bool.false_and] at h; cases h)]
           exact wpAny_pure hQ))
def Itl (K : PySem.W.Frag) (a : Addr) : It :=
  ⟨fun i H => ∃ xs x,SqL K H a xs ∧ xs[i]? = some x,fun i H x H' => H' = H ∧ ∀ xs,SqL K H a xs → xs[i]? = some x,fun i H => ∃ xs,SqL K H a xs ∧ xs.length ≤ i⟩
def Itr (lo : Int) (n : Nat) : It := ⟨fun i _ => i < n,fun i H x H' => H' = H ∧ x = .int (lo + i),fun i _ => n ≤ i⟩
theorem turn_list {P : Program} {w : World} {K : PySem.W.Frag} {tg : Expr} (a it : Addr) : Turn P w K tg (Itl K a) [it] it (fun i h => h.IsListIter it a i) where
  mem := by simp
  obj := fun i h st b hb => by
    have e : b = it := by simpa using hb
    subst e
    obtain ⟨o,e,c,d⟩ := st
    exact ⟨o,e,fun v z => by rw [d] at z; cases z⟩
  keep := fun i h h' st k => st.at fun o e => k it (by simp) o e
  item := by
    intro X hP hw hK hc i pins s σ H E I hf st hg
    subst hP hw hK
    obtain ⟨xs,x,hq,hx⟩ := hg
    obtain ⟨its,rv,p,hz⟩ := I.list hq
    obtain ⟨u,hu,ru⟩ := rv.get hx
    obtain ⟨f0,f1,f2,f3,f4,f5⟩ := hf it (by simp)
    refine wpAny_pyNext_list_item st p.isList (x:=u) (by simpa using hu) fun h' st' sb => ?_
    have I1 : Inv X pins σ H { s with heap := h' } := I.turned (t':=s.toks) (fun b o hb e => (sb.2 b hb).trans e) f0 f1 f3 f4 f5
    obtain ⟨o,e,c,d⟩ := id st'
    exact ⟨u,rfl,go_of (s:={ s with heap := h' }) e c d (by decide) ⟨x,H,I1,ru,⟨rfl,fun ys hy => by rw [I.list_inj hy hq]; exact hx⟩,st',fun b hb => (hf b hb).1⟩⟩
  done := by
    intro X hP hw hK hc i pins s σ H E I hf st hg
    subst hP hw hK
    obtain ⟨xs,hq,hx⟩ := hg
    obtain ⟨its,rv,p,hz⟩ := I.list hq
    obtain ⟨f0,f1,f2,f3,f4,f5⟩ := hf it (by simp)
    have hl := rv.length
    exact wpAny_pyNext_list_end (I.ok.hd hc) st p.isList (by simp; lia) fun h' eb => ⟨rfl,I.turned (t':=s.toks) (fun b o hb e => eb b o hb e) f0 f1 f3 f4 f5⟩
  self := fun _ _ _ _ _ st h => wpAny_pyIter_listiter st h
theorem turn_range {P : Program} {w : World} {K : PySem.W.Frag} {tg : Expr} (it : Addr) (lo : Int) (n : Nat) : Turn P w K tg (Itr lo n) [it] it (fun i h => IsRangeIter h it (lo + (i : Nat) * 1) ((n : Int) - (i : Nat)) 1) where
  mem := by simp
  obj := fun i h st b hb => by
    have e : b = it := by simpa using hb
    subst e
    exact ⟨_,st,fun v z => by
      have z' : Data.fields _ = Data.cell v := z
      cases z'⟩
  keep := fun i h h' st k => k it (by simp) _ st
  item := by
    intro X hP hw hK hc i pins s σ H E I hf st hg
    subst hP hw hK
    obtain ⟨f0,f1,f2,f3,f4,f5⟩ := hf it (by simp)
    have W := Walks.range (prog:=X.prog) (w:=X.w) (I.ok.hd hc) it lo 1 n
    refine W.item i s _ _ hg st fun v h' tk hv st' kk => ?_
    obtain ⟨t,rfl⟩ := hv
    have I1 : Inv X pins σ H { s with heap := h',toks := tk } := I.turned (fun b o hb e => kk b o (by simpa using hb) e) f0 f1 f3 f4 f5
    refine ⟨_,rfl,go_of (s:={ s with heap := h',toks := tk }) (n:="range_iterator") st' rfl rfl (by decide) ⟨.int (lo + i),H,I1,⟨t,?_⟩,⟨rfl,rfl⟩,st',fun b hb => (hf b hb).1⟩⟩
    rw [Int.mul_one]
  done := by
    intro X hP hw hK hc i pins s σ H E I hf st hg
    subst hP hw hK
    obtain ⟨f0,f1,f2,f3,f4,f5⟩ := hf it (by simp)
    exact wpAny_pyNext_range_end (I.ok.hd hc) st (by have : n ≤ i := hg; lia) fun h' eb => ⟨rfl,I.turned (t':=s.toks) (fun b o hb e => eb b o hb e) f0 f1 f3 f4 f5⟩
  self := fun _ _ _ _ _ st h => wpAny_pyIter_rangeiter st h
end L2
namespace L2
open PySem PySem.Spec PyProof.Rows
section
variable {X : Cx} {tg : Expr}
def iList (K : PySem.W.Frag) (tl : TE) : TI := fun σ H R => tl σ H fun x H1 => ∃ a,x = .ref a ∧ (∃ xs,SqL K H1 a xs) ∧ R (Itl K a) H1
theorem pi_list {l : Expr} {tl : TE} (hl : PE X l tl) : PI X tg l (iList X.K tl) := by
  intro pins s σ H R I h
  refine thn (hl pins s σ H _ I h) fun v s1 ⟨x,H1,I1,r1,q1⟩ => ?_
  obtain ⟨a,e,⟨xs,hq⟩,q⟩ := q1
  subst e
  cases r1
  obtain ⟨its,rv,p,hz⟩ := I1.list hq
  refine wpAny_pyIter_list p.isList ?_
  refine ⟨s1.heap.objs.size,[s1.heap.objs.size],_,_,H1,rfl,I1.kept (t':=s1.toks) fun b o e => Heap.get?_push_of_some _ e,turn_list a _,⟨_,Heap.get?_push_size _ rfl,rfl,rfl⟩,fun b hb => ?_,q⟩
  have e : b = s1.heap.objs.size := by simpa using hb
  subst e
  exact I1.fpOk (Nat.le_refl _) (I1.hok.fresh (Nat.le_refl _))
theorem range_it {pins : List (Addr × Obj)} {σ : St} {H : Hp} {s : Shared} {R : It → Hp → Prop} {E : Value → Shared → Prop} {lo hi : Int} {t u v : Tok} {tk : Nat} (I : Inv X pins σ H s) (h1 : -(2 ^ 62) ≤ lo) (h2 : lo < 2 ^ 62) (h3 : -(2 ^ 62) ≤ hi) (h4 : hi < 2 ^ 62)
    (q : R (Itr lo (hi - lo).toNat) H) : wpAny (model X.prog X.w) X.A (pyIter (.ref s.heap.objs.size)) (PIE X pins σ tg R) E { s with heap := s.heap.push { cls := .type "range",data := .fields #[.int lo t,.int hi u,.int 1 v] },toks := tk } := by
  refine wpAny_pyIter_range (IsRange.new ..) (small_one h1 h2 h3 h4) ?_
  have I1 : Inv X pins σ H { s with heap := s.heap.push { cls := .type "range",data := .fields #[.int lo t,.int hi u,.int 1 v] },toks := tk } := I.kept fun b o e => Heap.get?_push_of_some _ e
  refine ⟨(s.heap.push { cls := .type "range",data := .fields #[.int lo t,.int hi u,.int 1 v] }).objs.size,[(s.heap.push { cls := .type "range",data := .fields #[.int lo t,.int hi u,.int 1 v] }).objs.size],_,_,H,rfl,
    I1.kept (t':=tk) fun b o e => Heap.get?_push_of_some _ e,turn_range _ lo (hi - lo).toNat,?_,fun b hb => ?_,q⟩
  · have e1 : lo + ((0 : Nat) : Int) * 1 = lo := by simp
    have e2 : (((hi - lo).toNat : Nat) : Int) - ((0 : Nat) : Int) = Builtin.Range.rangeSize lo hi 1 := by rw [rangeSize_one]; split <;> lia
    show IsRangeIter _ _ (lo + ((0 : Nat) : Int) * 1) ((((hi - lo).toNat : Nat) : Int) - ((0 : Nat) : Int)) 1
    rw [e1,e2]
    exact Heap.get?_push_size _ rfl
  · have e : b = (s.heap.push { cls := .type "range",data := .fields #[.int lo t,.int hi u,.int 1 v] }).objs.size := by simpa using hb
    subst e
    exact I1.fpOk (Nat.le_refl _) (I1.hok.fresh (Nat.le_refl _))
def iRng1 (ta : TA) : TI := fun σ H R => ta σ H fun vs H1 => ∃ j : Int,vs = [.int j] ∧ -(2 ^ 62) ≤ j ∧ j < 2 ^ 62 ∧ R (Itr 0 j.toNat) H1
def iRng2 (ta : TA) : TI := fun σ H R => ta σ H fun vs H1 => ∃ i j : Int,vs = [.int i,.int j] ∧ (-(2 ^ 62) ≤ i ∧ i < 2 ^ 62 ∧ -(2 ^ 62) ≤ j ∧ j < 2 ^ 62) ∧ R (Itr i (j - i).toNat) H1
theorem pi_range1 {a : Expr} {ta : TA} {p pos : Pos} (hg : Gl X "range") (hm : X.mg "range" = none) (ha : PA X [a] ta) (hs : starEach [a] X.env = [(false,eval a X.env)] := by rfl) : PI X tg (.Call (.Name "range" p) [a] [] pos) (iRng1 ta) := by
  intro pins s σ H R I h
  refine Call_ (ld_blt I hg hm boot_range (PyProof.Rows.callWith_type1 (thn (ha pos pins s σ H _ I h) fun us s1 ⟨vs,H1,I1,r1,q1⟩ => ?_) hs rfl))
  obtain ⟨j,e,q1,q2,q⟩ := q1
  subst e
  cases r1 with
  | cons r rr =>
    cases rr
    obtain ⟨t,rfl⟩ := r
    exact call_range_1 (range_it I1 (by lia) (by lia) q1 q2 (by simpa using q))
theorem pi_range2 {a b : Expr} {ta : TA} {p pos : Pos} (hg : Gl X "range") (hm : X.mg "range" = none) (ha : PA X [a,b] ta) (hs : starEach [a,b] X.env = [(false,eval a X.env),(false,eval b X.env)] := by rfl) (hs2 : starEach [b] X.env = [(false,eval b X.env)] := by rfl) :
    PI X tg (.Call (.Name "range" p) [a,b] [] pos) (iRng2 ta) := by
  intro pins s σ H R I h
  refine Call_ (ld_blt I hg hm boot_range (PyProof.Rows.callWith_type1 (thn (ha pos pins s σ H _ I h) fun us s1 ⟨vs,H1,I1,r1,q1⟩ => ?_) (by rw [hs,hs2]) (by rw [hs2]; rfl)))
  obtain ⟨i,j,e,⟨q1,q2,q3,q4⟩,q⟩ := q1
  subst e
  cases r1 with
  | cons r rr =>
    cases rr with
    | cons r' rr =>
      cases rr
      obtain ⟨t,rfl⟩ := r
      obtain ⟨t',rfl⟩ := r'
      exact call_range_2 (range_it I1 q1 q2 q3 q4 q)
def tFor (wi : TI) (g : TG) (tb : TS) : TS := fun D σ H => wi σ H fun J H1 => ∃ W : Nat → Nat → St → Hp → Prop,(∃ m,W 0 m σ H1) ∧ ∀ i m σ H,W i m σ H →
  (J.stop i H ∧ D.nx σ H) ∨ (J.go i H ∧ ∃ N : St → Hp → Prop,(∀ σ' H',N σ' H' → ∃ m',m' < m ∧ W (i + 1) m' σ' H') ∧ ∀ x H',J.yld i H x H' → g x σ H' fun σ2 H2 => tb { D with nx := N,ct := N,bk := D.nx } σ2 H2)
def pinsAt (fp : List Addr) (h : Heap) : List (Addr × Obj) := fp.filterMap fun b => (h.get? b).map fun o => (b,o)
theorem mem_pinsAt {fp : List Addr} {h : Heap} {b : Addr} {o : Obj} (hb : b ∈ fp) (e : h.get? b = some o) : (b,o) ∈ pinsAt fp h := List.mem_filterMap.mpr ⟨b,hb,by rw [e]; rfl⟩
theorem of_pinsAt {fp : List Addr} {h : Heap} {p : Addr × Obj} (hp : p ∈ pinsAt fp h) : p.1 ∈ fp ∧ h.get? p.1 = some p.2 := by
  obtain ⟨b,hb,e⟩ := List.mem_filterMap.mp hp
  cases q : h.get? b with
  | none => rw [q] at e; cases e
  | some o =>
    rw [q] at e
    have e' : (b,o) = p := Option.some.inj e
    subst e'
    exact ⟨hb,q⟩
theorem Inv.pinned {pins : List (Addr × Obj)} {σ : St} {H : Hp} {s : Shared} {fp : List Addr} (I : Inv X pins σ H s) (hf : ∀ b ∈ fp,FpOk X pins H b) (ho : ∀ b ∈ fp,∃ o,s.heap.get? b = some o ∧ ∀ v,o.data ≠ .cell v) : Inv X (pins ++ pinsAt fp s.heap) σ H s :=
  I.pins_of fun p hp => (List.mem_append.mp hp).elim (fun z => I.pin p (List.mem_append_right _ z)) fun z => by
    obtain ⟨hb,e⟩ := of_pinsAt z
    obtain ⟨f0,f1,f2,_⟩ := hf p.1 hb
    obtain ⟨o,e',d⟩ := ho p.1 hb
    rw [e] at e'; cases e'
    exact ⟨e,f0,f1,f2,d⟩
theorem Inv.unpinned {pins pl : List (Addr × Obj)} {σ : St} {H : Hp} {s : Shared} (I : Inv X (pins ++ pl) σ H s) : Inv X pins σ H s := I.pins_of fun p hp => I.pin p (List.mem_append_right _ (List.mem_append_left _ hp))
theorem ps_for {iter : Expr} {body : List Stmt} {wi : TI} {g : TG} {tb : TS} {pos : Pos} (hp : PassesOwn (model X.prog X.w) X.A X.env X.xe) (hc : X.calm = true) (hi : PI X tg iter wi) (hg : PG X tg g) (hb : PSs X body tb)
    (hs : ∀ x,foldedSetIterable iter X.env x = pure x := by intro _; rfl) : PS X (.For tg iter body [] pos) (tFor wi g tb) := by
  intro pins s σ H D I h
  refine wpAny_For (thn (hi pins s σ H _ I h) fun v s1 h1 => thn h1 fun itv s2 h2 => ?_) hs
  obtain ⟨it,fp,tn,J,H2,e,I2,T,st2,f2,W,⟨m0,w0⟩,turn⟩ := h2
  subst e
  have stat : ∀ {H' : Hp},(∀ b ∈ fp,H' b = none) → ∀ b ∈ fp,FpOk X pins H' b := fun hn b hb => ⟨hn b hb,(f2 b hb).2⟩
  refine codeAny_forLoop_any (fun n s' => ∃ i σ' H',Inv X pins σ' H' s' ∧ tn i s'.heap ∧ (∀ b ∈ fp,H' b = none) ∧ W i n σ' H') ?_ m0 ⟨0,σ,H2,I2,st2,fun b hb => (f2 b hb).1,w0⟩
  rintro n s3 ⟨i,σ3,H3,I3,st3,fr3,w3⟩
  rcases turn i n σ3 H3 w3 with ⟨stop,qn⟩ | ⟨go,N,hN,step⟩
  · refine wpAny_passesOwn hp (thn (T.done X rfl rfl rfl hc i pins s3 σ3 H3 X.xe I3 (stat fr3) st3 stop) fun r s4 ⟨hr,I4⟩ => ?_)
    subst hr
    exact wpAny_execs_nil ⟨σ3,H3,I4,qn⟩
  · refine wpAny_passesOwn hp (thn (T.item X rfl rfl rfl hc i pins s3 σ3 H3 X.xe I3 (stat fr3) st3 go) fun r s4 ⟨u,hr,h4⟩ => ?_)
    subst hr
    refine wpAny_passesOwn hp (thn h4 fun _ s5 ⟨x,H5,I5,r5,y5,st5,fr5⟩ => ?_)
    have I5' := I5.pinned (stat fr5) (T.obj _ _ st5)
    refine wpAny_passesOwn hp (thn (hg _ s5 σ3 H5 x u _ I5' r5 (step x H5 y5)) fun _ s6 ⟨σ6,H6,I6,q6⟩ => ?_)
    refine wpAny_passesOwn hp (thn (hb _ s6 σ6 H6 _ I6 q6) fun f s7 q7 => ?_)
    have again : ∀ {σ7 : St} {H7 : Hp},Inv X (pins ++ pinsAt fp s5.heap) σ7 H7 s7 → N σ7 H7 → ∃ m,m < n ∧ ∃ i σ' H',Inv X pins σ' H' s7 ∧ tn i s7.heap ∧ (∀ b ∈ fp,H' b = none) ∧ W i m σ' H' := fun {σ7 H7} I7 n7 => by
      obtain ⟨m',hm,w7⟩ := hN σ7 H7 n7
      refine ⟨m',hm,i + 1,σ7,H7,I7.unpinned,T.keep _ _ _ st5 fun b hb o e => (I7.pin (b,o) (List.mem_append_right _ (List.mem_append_right _ (mem_pinsAt hb e)))).1,fun b hb => ?_,w7⟩
      obtain ⟨o,e,d⟩ := T.obj _ _ st5 b hb
      exact (I7.pin (b,o) (List.mem_append_right _ (List.mem_append_right _ (mem_pinsAt hb e)))).2.1
    cases f with
    | next => obtain ⟨σ7,H7,I7,n7⟩ := q7; exact again I7 n7
    | cont => obtain ⟨σ7,H7,I7,n7⟩ := q7; exact again I7 n7
    | brk => obtain ⟨σ7,H7,I7,q7⟩ := q7; exact ⟨σ7,H7,I7.unpinned,q7⟩
    | ret v => obtain ⟨x7,σ7,H7,I7,r7,q7⟩ := q7; exact ⟨x7,σ7,H7,I7.unpinned,r7,q7⟩
end
theorem for_list {K : PySem.W.Frag} {a : Addr} {xs : List V} {g : TG} {tb : TS} {D : Ends} {σ : St} {H : Hp} (Pv : Nat → St → Hp → Prop) (h0 : Pv 0 σ H) (hl : ∀ i σ H,i ≤ xs.length → Pv i σ H → SqL K H a xs)
    (hs : ∀ i x σ H,xs[i]? = some x → Pv i σ H → g x σ H fun σ2 H2 => tb { D with nx := Pv (i + 1),ct := Pv (i + 1),bk := D.nx } σ2 H2) (hd : ∀ σ H,Pv xs.length σ H → D.nx σ H) :
    ∃ W : Nat → Nat → St → Hp → Prop,(∃ m,W 0 m σ H) ∧ ∀ i m σ H,W i m σ H →
      ((Itl K a).stop i H ∧ D.nx σ H) ∨ ((Itl K a).go i H ∧ ∃ N : St → Hp → Prop,(∀ σ' H',N σ' H' → ∃ m',m' < m ∧ W (i + 1) m' σ' H') ∧ ∀ x H',(Itl K a).yld i H x H' → g x σ H' fun σ2 H2 => tb { D with nx := N,ct := N,bk := D.nx } σ2 H2) := by
  refine ⟨fun i m σ H => m = xs.length - i ∧ i ≤ xs.length ∧ Pv i σ H,⟨xs.length,by simp,Nat.zero_le _,h0⟩,?_⟩
  rintro i m σ H ⟨rfl,hi,p⟩
  have q := hl i σ H hi p
  by_cases hlt : i < xs.length
  · refine .inr ⟨⟨xs,xs[i],q,by simp [hlt]⟩,Pv (i + 1),fun σ' H' p' => ⟨xs.length - (i + 1),by lia,rfl,hlt,p'⟩,fun x H' y => ?_⟩
    obtain ⟨e,y⟩ := y
    subst e
    exact hs i x σ _ (y xs q) p
  · have e : i = xs.length := by lia
    subst e
    exact .inl ⟨⟨xs,q,Nat.le_refl _⟩,hd σ H p⟩
theorem for_range {lo : Int} {n : Nat} {g : TG} {tb : TS} {D : Ends} {σ : St} {H : Hp} (Pv : Nat → St → Hp → Prop) (h0 : Pv 0 σ H)
    (hs : ∀ i σ H,i < n → Pv i σ H → g (.int (lo + i)) σ H fun σ2 H2 => tb { D with nx := Pv (i + 1),ct := Pv (i + 1),bk := D.nx } σ2 H2) (hd : ∀ σ H,Pv n σ H → D.nx σ H) :
    ∃ W : Nat → Nat → St → Hp → Prop,(∃ m,W 0 m σ H) ∧ ∀ i m σ H,W i m σ H →
      ((Itr lo n).stop i H ∧ D.nx σ H) ∨ ((Itr lo n).go i H ∧ ∃ N : St → Hp → Prop,(∀ σ' H',N σ' H' → ∃ m',m' < m ∧ W (i + 1) m' σ' H') ∧ ∀ x H',(Itr lo n).yld i H x H' → g x σ H' fun σ2 H2 => tb { D with nx := N,ct := N,bk := D.nx } σ2 H2) := by
  refine ⟨fun i m σ H => m = n - i ∧ i ≤ n ∧ Pv i σ H,⟨n,by simp,Nat.zero_le _,h0⟩,?_⟩
  rintro i m σ H ⟨rfl,hi,p⟩
  by_cases hlt : i < n
  · refine .inr ⟨hlt,Pv (i + 1),fun σ' H' p' => ⟨n - (i + 1),by lia,rfl,hlt,p'⟩,fun x H' y => ?_⟩
    obtain ⟨e,y⟩ := y
    subst e y
    exact hs i σ _ hlt p
  · have e : i = n := by lia
    subst e
    exact .inl ⟨Nat.le_refl _,hd σ H p⟩
end L2
namespace L2
open PySem PySem.Spec PyProof.Rows
abbrev R2 := V → V → Hp → VK → Prop
def OpR (X : Cx) (f : Value → Value → Sem Value) (r : R2) : Prop :=
  ∀ (pins : List (Addr × Obj)) (s : Shared) (σ : St) (H : Hp) (x y : V) (v u : Value) (Q : VK),Inv X pins σ H s → RelV x v → RelV y u → r x y H Q →
    wpAny (model X.prog X.w) X.A (f v u) (EP X pins σ Q) X.xe s
def UnR (X : Cx) (f : Value → Sem Value) (r : V → Hp → VK → Prop) : Prop :=
  ∀ (pins : List (Addr × Obj)) (s : Shared) (σ : St) (H : Hp) (x : V) (v : Value) (Q : VK),Inv X pins σ H s → RelV x v → r x H Q →
    wpAny (model X.prog X.w) X.A (f v) (EP X pins σ Q) X.xe s
def CallR (X : Cx) (f : Value) (r : List V → Hp → VK → Prop) : Prop :=
  ∀ (pins : List (Addr × Obj)) (s : Shared) (σ : St) (H : Hp) (xs : List V) (us : List Value) (Q : VK),Inv X pins σ H s → Vals xs us → r xs H Q →
    wpAny (model X.prog X.w) X.A (call f us) (EP X pins σ Q) X.xe s
def tOp (r : R2) (ta tb : TE) : TE := fun σ H Q => ta σ H fun x H1 => tb σ H1 fun y H2 => r x y H2 Q
def tUn (r : V → Hp → VK → Prop) (ta : TE) : TE := fun σ H Q => ta σ H fun x H1 => r x H1 Q
def rI (C : Int → Int → Prop) (g : Int → Int → V) : R2 := fun x y H Q => ∃ i j,x = .int i ∧ y = .int j ∧ C i j ∧ Q (g i j) H
def rI0 (g : Int → Int → V) : R2 := fun x y H Q => ∃ i j,x = .int i ∧ y = .int j ∧ Q (g i j) H
def rU (g : Int → V) : V → Hp → VK → Prop := fun x H Q => ∃ i,x = .int i ∧ Q (g i) H
section
variable {X : Cx} {a b c : Expr} {ta tb tc : TE} {pos : Pos}
theorem binT (ha : PE X a ta) (hb : PE X b tb) {pins : List (Addr × Obj)} {s : Shared} {σ : St} {H : Hp} {R : V → V → Hp → Prop} (I : Inv X pins σ H s)
    (h : ta σ H fun x H1 => tb σ H1 fun y H2 => R x y H2) {Q : Value → Shared → Prop} {f : Value → Value → Sem Value}
    (hf : ∀ v u s2 x y H2,Inv X pins σ H2 s2 → RelV x v → RelV y u → R x y H2 → wpAny (model X.prog X.w) X.A (f v u) Q X.xe s2) :
    wpAny (model X.prog X.w) X.A (eval a X.env) (fun v s₁ => wpAny (model X.prog X.w) X.A (eval b X.env) (fun u s₂ => wpAny (model X.prog X.w) X.A (f v u) Q X.xe s₂) X.xe s₁) X.xe s := by
  refine thn (ha pins s σ H _ I h) fun v s1 ⟨x,H1,I1,r1,q1⟩ => ?_
  refine thn (hb pins s1 σ H1 _ I1 q1) fun u s2 ⟨y,H2,I2,r2,q2⟩ => ?_
  exact hf v u s2 x y H2 I2 r1 r2 q2
theorem pe_op {op : Operator} {r : R2} (ho : OpR X (binaryOp op) r) (ha : PE X a ta) (hb : PE X b tb) : PE X (.BinOp a op b pos) (tOp r ta tb) := by
  intro pins s σ H Q I h
  exact wpAny_BinOp (binT ha hb I h fun v u s2 x y H2 I2 rx ry q => ho pins s2 σ H2 x y v u Q I2 rx ry q)
theorem pe_un {op : UnaryOp} {r : V → Hp → VK → Prop} (ho : UnR X (unaryOp op) r) (ha : PE X a ta) : PE X (.UnaryOp op a pos) (tUn r ta) := by
  intro pins s σ H Q I h
  exact UnaryOp_ (thn (ha pins s σ H _ I h) fun v s1 ⟨x,H1,I1,r1,q1⟩ => ho pins s1 σ H1 x v Q I1 r1 q1)
theorem opI {f : Value → Value → Sem Value} {C : Int → Int → Prop} {g : Int → Int → Int}
    (rule : ∀ (i j : Int) (t u : Tok) (s : Shared) (Q : Value → Shared → Prop) (E : Value → Shared → Prop),C i j → Q (.int (g i j) s.toks) { s with toks := s.toks + 1 } → wpAny (model X.prog X.w) X.A (f (.int i t) (.int j u)) Q E s) :
    OpR X f (rI C fun i j => .int (g i j)) := by
  intro pins s σ H x y v u Q I rx ry h
  obtain ⟨i,j,rfl,rfl,hc,q⟩ := h
  obtain ⟨t,rfl⟩ := rx
  obtain ⟨t',rfl⟩ := ry
  exact rule i j t t' s _ _ hc ⟨.int (g i j),H,I.tok _,⟨_,rfl⟩,q⟩
theorem opI0 {f : Value → Value → Sem Value} {g : Int → Int → Int}
    (rule : ∀ (i j : Int) (t u : Tok) (s : Shared) (Q : Value → Shared → Prop) (E : Value → Shared → Prop),Q (.int (g i j) s.toks) { s with toks := s.toks + 1 } → wpAny (model X.prog X.w) X.A (f (.int i t) (.int j u)) Q E s) :
    OpR X f (rI0 fun i j => .int (g i j)) := by
  intro pins s σ H x y v u Q I rx ry h
  obtain ⟨i,j,rfl,rfl,q⟩ := h
  obtain ⟨t,rfl⟩ := rx
  obtain ⟨t',rfl⟩ := ry
  exact rule i j t t' s _ _ ⟨.int (g i j),H,I.tok _,⟨_,rfl⟩,q⟩
theorem opB0 {f : Value → Value → Sem Value} {g : Int → Int → Bool}
    (rule : ∀ (i j : Int) (t u : Tok) (s : Shared) (Q : Value → Shared → Prop) (E : Value → Shared → Prop),Q (.bool (g i j)) s → wpAny (model X.prog X.w) X.A (f (.int i t) (.int j u)) Q E s) :
    OpR X f (rI0 fun i j => .bl (g i j)) := by
  intro pins s σ H x y v u Q I rx ry h
  obtain ⟨i,j,rfl,rfl,q⟩ := h
  obtain ⟨t,rfl⟩ := rx
  obtain ⟨t',rfl⟩ := ry
  exact rule i j t t' s _ _ ⟨.bl (g i j),H,I,rfl,q⟩
def CDiv (i j : Int) : Prop := 0 < j ∧ j < 1073741824
def CPow (i j : Int) : Prop := 0 ≤ j ∧ j ≤ 1000000 ∧ i.natAbs < 2 ^ 64
def CMul (i j : Int) : Prop := (-(2 ^ 64) < i ∧ i < 2 ^ 64) ∨ (-(2 ^ 64) < j ∧ j < 2 ^ 64)
theorem CMul.ok {i j : Int} (h : CMul i j) : IntMulOk i j := by
  rcases h with ⟨h1,h2⟩ | ⟨h1,h2⟩
  · exact .of_left (intBits_le_64 h1 h2)
  · exact .of_right (intBits_le_64 h1 h2)
theorem op_add : OpR X (binaryOp .Add) (rI0 fun i j => .int (i + j)) := opI0 fun _ _ _ _ _ _ _ q => add_int q
theorem op_sub : OpR X (binaryOp .Sub) (rI0 fun i j => .int (i - j)) := opI0 fun _ _ _ _ _ _ _ q => sub_int q
theorem op_mul : OpR X (binaryOp .Mult) (rI CMul fun i j => .int (i * j)) := opI fun _ _ _ _ _ _ _ hc q => mul_int q hc.ok
theorem op_fdiv : OpR X (binaryOp .FloorDiv) (rI CDiv fun i j => .int (i / j)) := opI fun i j _ _ _ _ _ hc q => by
  have h1 : (0 : Int) < j := hc.1
  have h2 : j < 1073741824 := hc.2
  exact floordiv_int (by omega) (by rw [Int.fdiv_eq_ediv_of_nonneg i (by omega)]; exact q) (.inl (PyProof.noPylong_small (by omega)))
theorem op_mod : OpR X (binaryOp .Mod) (rI (fun _ j => 0 < j) fun i j => .int (i % j)) := opI fun i j _ _ _ _ _ hc q => by
  have h1 : (0 : Int) < j := hc
  exact mod_int' (by lia) (by rw [Int.fmod_eq_emod_of_nonneg i (by lia)]; exact q)
theorem op_pow : OpR X (binaryOp .Pow) (rI CPow fun i j => .int (i ^ j.toNat)) := opI fun _ _ _ _ _ _ _ hc q => pow_int_small hc.1 hc.2.1 hc.2.2 q
theorem unI {f : Value → Sem Value} {g : Int → Int}
    (rule : ∀ (i : Int) (t : Tok) (s : Shared) (Q : Value → Shared → Prop) (E : Value → Shared → Prop),Q (.int (g i) s.toks) { s with toks := s.toks + 1 } → wpAny (model X.prog X.w) X.A (f (.int i t)) Q E s) :
    UnR X f (rU fun i => .int (g i)) := by
  intro pins s σ H x v Q I rx h
  obtain ⟨i,rfl,q⟩ := h
  obtain ⟨t,rfl⟩ := rx
  exact rule i t s _ _ ⟨.int (g i),H,I.tok _,⟨_,rfl⟩,q⟩
theorem un_neg : UnR X (unaryOp .USub) (rU fun i => .int (-i)) := unI fun _ _ _ _ _ q => neg_int q
end
def scal : V → V → Bool
  | .non,.non => true | .non,.int _ => true | .int _,.non => true | .non,.bl _ => true | .bl _,.non => true | .non,.str _ => true | .str _,.non => true
  | .int _,.int _ => true | .bl _,.bl _ => true | .str _,.str _ => true | .byt _,.byt _ => true
  | .int _,.str _ => true | .str _,.int _ => true | .bl _,.str _ => true | .str _,.bl _ => true
  | _,_ => false
def rEq : R2 := fun x y H Q => scal x y = true ∧ Q (.bl (decide (x = y))) H
def rNe : R2 := fun x y H Q => scal x y = true ∧ Q (.bl (!decide (x = y))) H
theorem dec_int {i j : Int} : decide (V.int i = V.int j) = (i == j) := by
  rw [Bool.eq_iff_iff]
  simp
theorem dec_bl {i j : Bool} : decide (V.bl i = V.bl j) = (i == j) := by
  rw [Bool.eq_iff_iff]
  simp
theorem dec_str {i j : Str} : decide (V.str i = V.str j) = (i == j) := by
  rw [Bool.eq_iff_iff]
  simp
theorem dec_byt {i j : Array UInt8} : decide (V.byt i = V.byt j) = (i.toList == j.toList) := by
  rw [Bool.eq_iff_iff]
  cases i
  cases j
  simp
section
variable {X : Cx} {a b c : Expr} {ta tb tc : TE} {pos : Pos}
theorem fin_bl {pins : List (Addr × Obj)} {σ : St} {H : Hp} {s : Shared} {Q : VK} {k k' : Bool} (I : Inv X pins σ H s) (q : Q (.bl k) H) (e : k = k') : EP X pins σ Q (.bool k') s := by
  subst e
  exact ⟨.bl k,H,I,rfl,q⟩
theorem op_eq : OpR X (compareOp .Eq) rEq := by
  intro pins s σ H x y v u Q I rx ry h
  obtain ⟨hs,q⟩ := h
  cases x with
  | non =>
    cases rx
    cases y with
    | non => cases ry; exact PySem.EqNone.eq_none_none (fin_bl I q (by simp))
    | bl j => cases ry; exact PySem.EqNone.eq_none_bool (fin_bl I q (by simp))
    | int j => obtain ⟨t',rfl⟩ := ry; exact PySem.EqNone.eq_none_int (fin_bl I q (by simp))
    | str j => obtain ⟨t',rfl⟩ := ry; exact PySem.EqNone.eq_none_str (fin_bl I q (by simp))
    | _ => exact absurd (show false = true from hs) Bool.false_ne_true
  | bl i =>
    cases rx
    cases y with
    | non => cases ry; exact PySem.EqNone.eq_bool_none (fin_bl I q (by simp))
    | bl j => cases ry; exact eq_bool (fin_bl I q dec_bl)
    | str j => obtain ⟨t',rfl⟩ := ry; exact PySem.EqMixed.eq_bool_str (fin_bl I q (by simp))
    | _ => exact absurd (show false = true from hs) Bool.false_ne_true
  | int i =>
    obtain ⟨t,rfl⟩ := rx
    cases y with
    | non => cases ry; exact PySem.EqNone.eq_int_none (fin_bl I q (by simp))
    | int j => obtain ⟨t',rfl⟩ := ry; exact eq_int (fin_bl I q dec_int)
    | str j => obtain ⟨t',rfl⟩ := ry; exact PySem.EqMixed.eq_int_str (fin_bl I q (by simp))
    | _ => exact absurd (show false = true from hs) Bool.false_ne_true
  | str i =>
    obtain ⟨t,rfl⟩ := rx
    cases y with
    | non => cases ry; exact PySem.EqNone.eq_str_none (fin_bl I q (by simp))
    | bl j => cases ry; exact PySem.EqMixed.eq_str_bool (fin_bl I q (by simp))
    | int j => obtain ⟨t',rfl⟩ := ry; exact PySem.EqMixed.eq_str_int (fin_bl I q (by simp))
    | str j => obtain ⟨t',rfl⟩ := ry; exact eq_str (fin_bl I q dec_str)
    | _ => exact absurd (show false = true from hs) Bool.false_ne_true
  | byt i =>
    obtain ⟨t,rfl⟩ := rx
    cases y with
    | byt j => obtain ⟨t',rfl⟩ := ry; exact PySem.W.eq_bytes (fin_bl I q dec_byt)
    | _ => exact absurd (show false = true from hs) Bool.false_ne_true
  | _ => cases y <;> exact absurd (show false = true from hs) Bool.false_ne_true
theorem op_ne : OpR X (compareOp .NotEq) rNe := by
  intro pins s σ H x y v u Q I rx ry h
  obtain ⟨hs,q⟩ := h
  cases x with
  | non =>
    cases rx
    cases y with
    | non => cases ry; exact PySem.EqNone.ne_none_none (fin_bl I q (by simp))
    | bl j => cases ry; exact PySem.EqNone.ne_none_bool (fin_bl I q (by simp))
    | int j => obtain ⟨t',rfl⟩ := ry; exact PySem.EqNone.ne_none_int (fin_bl I q (by simp))
    | str j => obtain ⟨t',rfl⟩ := ry; exact PySem.EqNone.ne_none_str (fin_bl I q (by simp))
    | _ => exact absurd (show false = true from hs) Bool.false_ne_true
  | bl i =>
    cases rx
    cases y with
    | non => cases ry; exact PySem.EqNone.ne_bool_none (fin_bl I q (by simp))
    | bl j => cases ry; exact ne_bool (fin_bl I q (congrArg not dec_bl))
    | str j => obtain ⟨t',rfl⟩ := ry; exact PySem.EqMixed.ne_bool_str (fin_bl I q (by simp))
    | _ => exact absurd (show false = true from hs) Bool.false_ne_true
  | int i =>
    obtain ⟨t,rfl⟩ := rx
    cases y with
    | non => cases ry; exact PySem.EqNone.ne_int_none (fin_bl I q (by simp))
    | int j => obtain ⟨t',rfl⟩ := ry; exact ne_int (fin_bl I q (congrArg not dec_int))
    | str j => obtain ⟨t',rfl⟩ := ry; exact PySem.EqMixed.ne_int_str (fin_bl I q (by simp))
    | _ => exact absurd (show false = true from hs) Bool.false_ne_true
  | str i =>
    obtain ⟨t,rfl⟩ := rx
    cases y with
    | non => cases ry; exact PySem.EqNone.ne_str_none (fin_bl I q (by simp))
    | bl j => cases ry; exact PySem.EqMixed.ne_str_bool (fin_bl I q (by simp))
    | int j => obtain ⟨t',rfl⟩ := ry; exact PySem.EqMixed.ne_str_int (fin_bl I q (by simp))
    | str j => obtain ⟨t',rfl⟩ := ry; exact ne_str (fin_bl I q (congrArg not dec_str))
    | _ => exact absurd (show false = true from hs) Bool.false_ne_true
  | byt i =>
    obtain ⟨t,rfl⟩ := rx
    cases y with
    | byt j => obtain ⟨t',rfl⟩ := ry; exact PySem.W.ne_bytes (fin_bl I q (congrArg not dec_byt))
    | _ => exact absurd (show false = true from hs) Bool.false_ne_true
  | _ => cases y <;> exact absurd (show false = true from hs) Bool.false_ne_true
theorem op_lt : OpR X (compareOp .Lt) (rI0 fun i j => .bl (decide (i < j))) := opB0 fun _ _ _ _ _ _ _ q => lt_int q
theorem op_le : OpR X (compareOp .LtE) (rI0 fun i j => .bl (decide (i ≤ j))) := opB0 fun _ _ _ _ _ _ _ q => le_int q
theorem op_gt : OpR X (compareOp .Gt) (rI0 fun i j => .bl (decide (j < i))) := opB0 fun _ _ _ _ _ _ _ q => gt_int q
theorem op_ge : OpR X (compareOp .GtE) (rI0 fun i j => .bl (decide (j ≤ i))) := opB0 fun _ _ _ _ _ _ _ q => ge_int q
theorem op_isN : OpR X (compareOp .Is) (fun x y H Q => y = .non ∧ Q (.bl (decide (x = .non))) H) := by
  intro pins s σ H x y v u Q I rx ry h
  obtain ⟨rfl,q⟩ := h
  cases ry
  refine is_none_gen (fin_bl I q ?_)
  cases x <;> first
    | (cases rx; rfl)
    | (obtain ⟨t,rfl⟩ := rx; rfl)
theorem op_notN : OpR X (compareOp .IsNot) (fun x y H Q => y = .non ∧ Q (.bl (!decide (x = .non))) H) := by
  intro pins s σ H x y v u Q I rx ry h
  obtain ⟨rfl,q⟩ := h
  cases ry
  refine isnot_none_gen (fin_bl I q ?_)
  cases x <;> first
    | (cases rx; rfl)
    | (obtain ⟨t,rfl⟩ := rx; rfl)
theorem pe_cmpR {op : CmpOp} {r : R2} (ho : OpR X (compareOp op) r) (ha : PE X a ta) (hb : PE X b tb) (hm : behindInMarks op b = false) : PE X (.Compare a [op] [b] pos) (tOp r ta tb) := by
  intro pins s σ H Q I h
  exact wpAny_Compare1 (binT ha hb I h fun v u s2 x y H2 I2 rx ry q => ho pins s2 σ H2 x y v u Q I2 rx ry q) hm
def tTest (t : TE) : TT := fun σ H Q => t σ H fun x H' => ∃ k,x = .bl k ∧ Q k H'
theorem pt_cmpR {op : CmpOp} {r : R2} (ho : OpR X (compareOp op) r) (ha : PE X a ta) (hb : PE X b tb) (hm : behindInMarks op b = false) : PT X (.Compare a [op] [b] pos) (tTest (tOp r ta tb)) := by
  intro pins s σ H Q I h
  refine wpAny_isTrue_Compare1 (thn (ha pins s σ H _ I h) fun v s1 ⟨x,H1,I1,r1,q1⟩ => thn (hb pins s1 σ H1 _ I1 q1) fun u s2 ⟨y,H2,I2,r2,q2⟩ =>
    thn (ho pins s2 σ H2 x y v u _ I2 r1 r2 q2) fun c s3 ⟨z,H3,I3,r3,k,e,q3⟩ => ?_) hm
  subst e
  cases r3
  exact wpAny_truthy_bool ⟨H3,I3,q3⟩
def tChain (r r' : R2) (ta tb tc : TE) : TE := fun σ H Q => ta σ H fun x H1 => tb σ H1 fun y H2 => r x y H2 fun z H3 => ∃ k,z = .bl k ∧
  (if k = true then tc σ H3 fun w' H4 => r' y w' H4 Q else Q (.bl false) H3)
theorem pe_chain {op op' : CmpOp} {r r' : R2} (ho : OpR X (compareOp op) r) (ho' : OpR X (compareOp op') r') (ha : PE X a ta) (hb : PE X b tb) (hc : PE X c tc)
    (hm : lastMarks [op,op'] [b,c] = false := by with_unfolding_all rfl) : PE X (.Compare a [op,op'] [b,c] pos) (tChain r r' ta tb tc) := by
  intro pins s σ H Q I h
  refine Compare_chain (thn (ha pins s σ H _ I h) fun v s1 ⟨x,H1,I1,r1,q1⟩ => chain_link (thn (hb pins s1 σ H1 _ I1 q1) fun u s2 ⟨y,H2,I2,r2,q2⟩ =>
    thn (ho pins s2 σ H2 x y v u _ I2 r1 r2 q2) fun d s3 ⟨z,H3,I3,r3,k,e,q3⟩ => ?_)) hm
  subst e
  cases r3
  refine wpAny_truthy_bool ?_
  cases k with
  | false => exact ite_ff ⟨.bl false,H3,I3,rfl,q3⟩
  | true => exact ite_tt (chain_last (thn (hc pins s3 σ H3 _ I3 q3) fun w' s4 ⟨z',H4,I4,r4,q4⟩ => ho' pins s4 σ H4 y z' u w' Q I4 r2 r4 q4))
theorem pt_chain {op op' : CmpOp} {r r' : R2} (ho : OpR X (compareOp op) r) (ho' : OpR X (compareOp op') r') (ha : PE X a ta) (hb : PE X b tb) (hc : PE X c tc)
    (hm : lastMarks [op,op'] [b,c] = false := by with_unfolding_all rfl) : PT X (.Compare a [op,op'] [b,c] pos) (tTest (tChain r r' ta tb tc)) := by
  intro pins s σ H Q I h
  refine isTrue_chain (thn (ha pins s σ H _ I h) fun v s1 ⟨x,H1,I1,r1,q1⟩ => test_link (thn (hb pins s1 σ H1 _ I1 q1) fun u s2 ⟨y,H2,I2,r2,q2⟩ =>
    thn (ho pins s2 σ H2 x y v u _ I2 r1 r2 q2) fun d s3 ⟨z,H3,I3,r3,k,e,q3⟩ => ?_)) hm
  subst e
  cases r3
  refine wpAny_truthy_bool ?_
  cases k with
  | false =>
    obtain ⟨k',e',q'⟩ := q3
    cases e'
    exact ite_ff ⟨H3,I3,q'⟩
  | true =>
    refine ite_tt (test_last (thn (hc pins s3 σ H3 _ I3 q3) fun w' s4 ⟨z',H4,I4,r4,q4⟩ => thn (ho' pins s4 σ H4 y z' u w' _ I4 r2 r4 q4) fun d' s5 ⟨z2,H5,I5,r5,k2,e2,q5⟩ => ?_))
    subst e2
    cases r5
    exact wpAny_truthy_bool ⟨H5,I5,q5⟩
theorem line63 : (sizeLine : Nat) < 2 ^ 63 := by rw [sizeLine_eq]; decide
theorem vals1 {x : V} {us : List Value} (r : Vals [x] us) : ∃ u,us = [u] ∧ RelV x u := by
  cases r with
  | cons r1 r2 => cases r2; exact ⟨_,rfl,r1⟩
theorem vals2 {x y : V} {us : List Value} (r : Vals [x,y] us) : ∃ u w',us = [u,w'] ∧ RelV x u ∧ RelV y w' := by
  cases r with
  | cons r1 r2 =>
    cases r2 with
    | cons r3 r4 => cases r4; exact ⟨_,_,rfl,r1,r3⟩
theorem call_abs : CallR X (.builtin "abs") (fun xs H Q => ∃ i,xs = [.int i] ∧ Q (.int (if i < 0 then -i else i)) H) := by
  intro pins s σ H xs us Q I r h
  obtain ⟨i,rfl,q⟩ := h
  obtain ⟨u,rfl,t,rfl⟩ := vals1 r
  exact call_abs_int fun u tk => ⟨.int (if i < 0 then -i else i),H,I.tok _,⟨_,rfl⟩,q⟩
theorem call_max2 (hc : X.calm = true) : CallR X (.builtin "max") (fun xs H Q => ∃ i j,xs = [.int i,.int j] ∧ Q (.int (if j > i then j else i)) H) := by
  intro pins s σ H xs us Q I r h
  obtain ⟨i,j,rfl,q⟩ := h
  obtain ⟨u,w',rfl,⟨t,rfl⟩,⟨t',rfl⟩⟩ := vals2 r
  refine max_two_ints (I.ok.hd hc) fun h' tk k => ⟨_,H,I.kept k,?_,q⟩
  by_cases hj : j > i
  · rw [if_pos hj,if_pos hj]; exact ⟨_,rfl⟩
  · rw [if_neg hj,if_neg hj]; exact ⟨_,rfl⟩
theorem call_min2 (hc : X.calm = true) : CallR X (.builtin "min") (fun xs H Q => ∃ i j,xs = [.int i,.int j] ∧ Q (.int (if j < i then j else i)) H) := by
  intro pins s σ H xs us Q I r h
  obtain ⟨i,j,rfl,q⟩ := h
  obtain ⟨u,w',rfl,⟨t,rfl⟩,⟨t',rfl⟩⟩ := vals2 r
  refine min_two_ints (I.ok.hd hc) fun h' tk k => ⟨_,H,I.kept k,?_,q⟩
  by_cases hj : j < i
  · rw [if_pos hj,if_pos hj]; exact ⟨_,rfl⟩
  · rw [if_neg hj,if_neg hj]; exact ⟨_,rfl⟩
theorem call_int1 : CallR X (.type "int") (fun xs H Q => (∃ i,xs = [.int i] ∧ Q (.int i) H) ∨ ∃ k,xs = [.bl k] ∧ Q (.int (if k then 1 else 0)) H) := by
  intro pins s σ H xs us Q I r h
  rcases h with ⟨i,rfl,q⟩ | ⟨k,rfl,q⟩
  · obtain ⟨u,rfl,t,rfl⟩ := vals1 r
    exact call_int_int ⟨.int i,H,I,⟨_,rfl⟩,q⟩
  · obtain ⟨u,rfl,r1⟩ := vals1 r
    cases r1
    exact call_int_bool ⟨.int (if k then 1 else 0),H,I.tok _,⟨_,rfl⟩,q⟩
end
end L2
namespace L2
open PySem PySem.Spec PyProof.Rows
structure ObjM (h : Heap) (x dx C : Addr) (mA : Str → Option Value) : Prop where
  obj : h.get? x = some (PySem.W.instObj C dx)
  ns : h.Ns1 dx mA
  ne : dx ≠ x
theorem lookIn_ns {h : Heap} {dx : Addr} {mA : Str → Option Value} (n : h.Ns1 dx mA) : ∃ od,h.get? dx = some od ∧ ∀ name,PySem.W.lookIn name od = some (mA name) := by
  obtain ⟨o,es,ep,ho,hd,hk,_,hm⟩ := n
  refine ⟨o,ho,fun name => ?_⟩
  have e := hm name
  unfold nsFind findBy at e
  rw [← Array.find?_toList] at e
  unfold PySem.W.lookIn
  rw [hd]
  dsimp only
  split
  · rename_i y q
    rw [q] at e
    exact congrArg some e
  · rename_i q
    rw [q] at e
    have a : es.toList.any (·.refKey) = false := by
      rw [List.any_eq_false]
      intro y hy
      obtain ⟨z,t,hkey⟩ := hk y (Array.mem_toList_iff.mp hy)
      simp [DictEntry.refKey,hkey]
    have a' : ¬ es.toList.any (·.refKey) = true := by rw [a]; exact Bool.false_ne_true
    rw [if_neg a']
    exact congrArg some e
theorem ObjM.look {h : Heap} {x dx C : Addr} {mA : Str → Option Value} (I : ObjM h x dx C mA) : ∃ od,PySem.W.InstAt h x (PySem.W.instObj C dx) C (some od) ∧ ∀ name,PySem.W.lookIn name od = some (mA name) :=
  let ⟨od,ho,hl⟩ := lookIn_ns I.ns
  ⟨od,⟨I.obj,rfl,rfl,ho⟩,hl⟩
section
variable {prog : Program} {w : World} {A : Around} {E : Value → Shared → Prop} {s : Shared} {K : PySem.W.Frag} {x dx C f : Addr} {mA : Str → Option Value} {name : Str} {v : Value}
theorem get_map {expr : Bool} {Q : Value → Shared → Prop} (X : K.In s.heap) (I : ObjM s.heap x dx C mA) (hg : PySem.W.plainGet K C name = true) (hh : PySem.W.hasDictIn K C = true)
    (ha : PySem.W.findIn K (.ref C) name = some none) (hv : mA name = some v) (hv' : PySem.W.handedIn v = true) (h : Q v { s with toks := s.toks + 1 }) :
    wpAny (model prog w) A (getAttr (.ref x) name expr) Q E s := by
  obtain ⟨od,J,hl⟩ := I.look
  exact PySem.W.get_value X J (PySem.W.plainGet_of hg).1 (PySem.W.findObj_own hh ha rfl (by rw [hl,hv])) hv' h
theorem set_map {ns : List Str} {Q : Unit → Shared → Prop} (X : K.In s.heap) (I : ObjM s.heap x dx C mA)
    (hs : PySem.W.findIn K (.ref C) "__setattr__" = some (some (.builtin "object.__setattr__"))) (hp : PySem.W.plainOver K C = true) (ht : PySem.W.takerIn K C name = some none) (hh : PySem.W.hasDictIn K C = true)
    (hw : PySem.Within mA ns) (hsz : ns.length ≤ sizeLine)
    (h : ∀ h',ObjM h' x dx C (fun y => if y = name then some v else mA y) → Heap.SameBut dx s.heap h' → Q () { s with heap := h',toks := s.toks + 2 }) :
    wpAny (model prog w) A (setAttr (.ref x) name v) Q E s := by
  obtain ⟨od,J,hl⟩ := I.look
  refine PySem.W.set_plain X J hs (PySem.W.osa_open (s:={ s with toks := s.toks + 1 }) (r:=none) X J hp ht fun b => ?_)
  obtain ⟨cd,hc,hd'⟩ := PySem.W.any_some hh
  have hx : s.heap.get? x = some ⟨.ref C,some dx,.plain,#[]⟩ := I.obj
  refine wpAny_bind (wpAny_pure (wpAny_bind (wpAny_bind (wpAny_loadPart hx (wpAny_bind (PySem.W.Looks.here (s:={ s with toks := s.toks + 1 }) (PySem.W.looks_clsIn X hc) ?_))))))
  rw [hd']
  refine wpAny_pure (a:=some dx) (wpAny_bind (wpAny_pure (wpAny_bind ?_)))
  refine wpAny_nsSet1 (s:={ s with toks := s.toks + 1 }) I.ns fun h' hn2 hs2 => ?_
  obtain ⟨oD,esD,epD,hoD,hdD,hcD⟩ := hn2.count (PySem.Within.cons name v hw)
  refine wpAny_bind (wpAny_lookBehind hoD (by rw [hdD]; exact pastItsLine_dict (Nat.le_trans hcD (by rw [List.length_cons]; lia))) ?_)
  exact wpAny_pure (h _ ⟨(hs2.2 _ (Ne.symm I.ne)).trans I.obj,hn2,I.ne⟩ hs2)
theorem make_map {R : Result → Shared → Prop} {vs : List Value} {kw : List (Str × Value)} (X : K.In s.heap) (hm : PySem.W.makesIn K C = true)
    (hi : PySem.W.findIn K (.ref C) "__init__" = some (some (.ref f))) (hf : PySem.W.typeIn K (.ref f) = some (.type "function"))
    (h : codeAny (model prog w) (A.under (.builtin "type.__call__" ⟨.ref C :: vs,kw⟩)) (.call (.ref f) ⟨.ref (s.heap.objs.size + 1) :: vs,kw⟩) (PySem.W.InitBack (s.heap.objs.size + 1) R)
      { s with heap := (s.heap.push PySem.W.emptyDict).push (PySem.W.instObj C s.heap.objs.size) }) :
    codeAny (model prog w) A (.call (.ref C) ⟨vs,kw⟩) R s := by
  obtain ⟨hh,g,d,t,os⟩ := s
  exact PySem.W.make_core (PySem.W.makes_of X hm) (PySem.W.looks_findIn X hi) (fun self => PySem.W.bind_fn X self hf) (.inl rfl) h
end
def putF (f : Str) (v : V) : List (Str × V) → List (Str × V)
  | [] => [(f,v)]
  | (g,x) :: r => if g = f then (g,v) :: r else (g,x) :: putF f v r
theorem lookup_putF (f g : Str) (v : V) : ∀ fs : List (Str × V),(putF f v fs).lookup g = if g = f then some v else fs.lookup g
  | [] => by
    show List.lookup g [(f,v)] = _
    by_cases h : g = f
    · have hb : (g == f) = true := beq_iff_eq.mpr h
      simp only [List.lookup,hb,if_pos h]
    · have hb : (g == f) = false := beq_eq_false_iff_ne.mpr h
      simp only [List.lookup,hb,if_neg h]
  | (k,x) :: r => by
    have ih := lookup_putF f g v r
    rw [show putF f v ((k,x) :: r) = (if k = f then (k,v) :: r else (k,x) :: putF f v r) from rfl]
    by_cases hk : k = f
    · rw [if_pos hk]
      by_cases h : g = k
      · have hb : (g == k) = true := beq_iff_eq.mpr h
        simp only [List.lookup,hb,if_pos (h.trans hk)]
      · have hb : (g == k) = false := beq_eq_false_iff_ne.mpr h
        simp only [List.lookup,hb,if_neg (fun e : g = f => h (e.trans hk.symm))]
    · rw [if_neg hk]
      by_cases h : g = k
      · have hb : (g == k) = true := beq_iff_eq.mpr h
        simp only [List.lookup,hb,if_neg (fun e : g = f => hk (h.symm.trans e))]
      · have hb : (g == k) = false := beq_eq_false_iff_ne.mpr h
        simp only [List.lookup,hb]
        exact ih
theorem keys_putF (f : Str) (v : V) : ∀ fs : List (Str × V),f ∈ (putF f v fs).map (·.1) ∧ ∀ g,g ∈ fs.map (·.1) → g ∈ (putF f v fs).map (·.1)
  | [] => ⟨by simp [putF],fun g h => by simp at h⟩
  | (k,x) :: r => by
    obtain ⟨i1,i2⟩ := keys_putF f v r
    rw [show putF f v ((k,x) :: r) = (if k = f then (k,v) :: r else (k,x) :: putF f v r) from rfl]
    by_cases hk : k = f
    · rw [if_pos hk]
      subst hk
      exact ⟨by simp,fun g h => by simpa using h⟩
    · rw [if_neg hk]
      refine ⟨?_,fun g h => ?_⟩
      · rw [List.map_cons]
        exact List.mem_cons_of_mem _ i1
      · rw [List.map_cons] at h ⊢
        rcases List.mem_cons.mp h with e | e
        · exact List.mem_cons.mpr (.inl e)
        · exact List.mem_cons_of_mem _ (i2 g e)
theorem length_putF (f : Str) (v : V) : ∀ fs : List (Str × V),(putF f v fs).length ≤ fs.length + 1
  | [] => by simp [putF]
  | (k,x) :: r => by
    have ih := length_putF f v r
    rw [show putF f v ((k,x) :: r) = (if k = f then (k,v) :: r else (k,x) :: putF f v r) from rfl]
    by_cases hk : k = f
    · rw [if_pos hk,List.length_cons,List.length_cons]; lia
    · rw [if_neg hk,List.length_cons,List.length_cons]; lia
theorem RelO.some_of {v : V} {o : Option Value} (r : RelO (some v) o) : ∃ u,o = some u ∧ RelV v u := by
  cases o with
  | none => exact (show False from r).elim
  | some u => exact ⟨u,rfl,r⟩
theorem handed_of {v : V} {u : Value} (r : RelV v u) : PySem.W.handedIn u = true := by
  cases v with
  | non => cases (show u = Value.none from r); rfl
  | bl b => cases (show u = Value.bool b from r); rfl
  | int i => obtain ⟨t,e⟩ := (show ∃ t,u = Value.int i t from r); cases e; rfl
  | str x => obtain ⟨t,e⟩ := (show ∃ t,u = Value.str x t from r); cases e; rfl
  | byt b => obtain ⟨t,e⟩ := (show ∃ t,u = Value.bytes b t from r); cases e; rfl
  | flt b => obtain ⟨t,e⟩ := (show ∃ t,u = Value.float b t from r); cases e; rfl
  | ref a => cases (show u = Value.ref a from r); rfl
  | ty n => cases (show u = Value.type n from r); rfl
section
variable {P : Program} {w : World} {H H' : Hp} {h h' : Heap} {a C dx : Addr} {fs fs' : List (Str × V)}
theorem ins_get (hok : HOk P w H h) (e : H a = some (.ins C dx fs)) : ∃ mA,ObjM h a dx C mA ∧ (∀ f,RelO (fs.lookup f) (mA f)) ∧ PySem.Within mA (fs.map (·.1)) ∧ fs.length ≤ 1000 ∧ H dx = some (.own a) := by
  obtain ⟨d,z,ne,ob,mA,n,r,q⟩ := (show ObjOk P w H h a (.ins C dx fs) from hok a _ e)
  exact ⟨mA,⟨ob,n,ne⟩,r,q,z,d⟩
end
structure Cls (K : PySem.W.Frag) (C : Addr) : Prop where
  pg : PySem.W.plainGet K C Str.empty = true
  hd : PySem.W.hasDictIn K C = true
  po : PySem.W.plainOver K C = true
  sa : PySem.W.findIn K (.ref C) "__setattr__" = some (some (.builtin "object.__setattr__"))
theorem Cls.get {K : PySem.W.Frag} {C : Addr} (c : Cls K C) (f : Str) : PySem.W.plainGet K C f = true := c.pg
def NoAttr (K : PySem.W.Frag) (C : Addr) (f : Str) : Prop := PySem.W.findIn K (.ref C) f = some none
theorem NoAttr.taker {K : PySem.W.Frag} {C : Addr} {f : Str} (n : NoAttr K C f) : PySem.W.takerIn K C f = some none := by
  unfold PySem.W.takerIn
  rw [show PySem.W.findIn K (.ref C) f = some none from n]
  rfl
structure Con (K : PySem.W.Frag) (C : Addr) (f : Str) (v : V) (u : Value) : Prop where
  at_ : PySem.W.findIn K (.ref C) f = some (some u)
  rel : RelV v u
  get : PySem.W.specialIn K u "__get__" = some none
  cp : PySem.W.copiedNames.contains f = false
structure Meth (K : PySem.W.Frag) (C : Addr) (m : Str) (f : Addr) : Prop where
  at_ : PySem.W.findIn K (.ref C) m = some (some (.ref f))
  fn : PySem.W.isFn K (.ref f) = true
  kp : PySem.W.keepIn K (.ref f) = true
section
variable {X : Cx} {pins : List (Addr × Obj)} {σ : St} {H : Hp} {s : Shared} {a C dx : Addr} {fs : List (Str × V)} {f : Str} {v : V} {A : Around} {E : Value → Shared → Prop}
theorem getattr_ok {b : Bool} {Q : Value → Shared → Prop} (I : Inv X pins σ H s) (e : H a = some (.ins C dx fs)) (c : Cls X.K C) (n : NoAttr X.K C f) (l : fs.lookup f = some v)
    (h : ∀ u s',Inv X pins σ H s' → RelV v u → Q u s') : wpAny (model X.prog X.w) A (getAttr (.ref a) f b) Q E s := by
  obtain ⟨mA,O,r,_,_,_⟩ := ins_get I.hok e
  obtain ⟨u,hu,ru⟩ := RelO.some_of (v:=v) (o:=mA f) (by rw [← l]; exact r f)
  exact get_map I.kIn O (c.get f) c.hd n hu (handed_of ru) (h u _ (I.tok _) ru)
theorem setattr_ok {y : V} {u : Value} {Q : Unit → Shared → Prop} (I : Inv X pins σ H s) (e : H a = some (.ins C dx fs)) (c : Cls X.K C) (n : NoAttr X.K C f) (hl : fs.length < 1000) (ry : RelV y u)
    (h : ∀ s',Inv X pins σ (upd H a (.ins C dx (putF f y fs))) s' → Q () s') : wpAny (model X.prog X.w) A (setAttr (.ref a) f u) Q E s := by
  obtain ⟨mA,O,r,wi,_,ho⟩ := ins_get I.hok e
  have hz : (fs.map (·.1)).length ≤ sizeLine := by rw [List.length_map,sizeLine_eq]; lia
  refine set_map I.kIn O c.sa c.po n.taker c.hd wi hz fun h' O' sb => h _ ?_
  have hd : ∃ o,h'.get? dx = some o := let ⟨o,_,_,e',_⟩ := O'.ns; ⟨o,e'⟩
  refine I.write (x:=a) (e:=dx) (by rw [e]; exact True.intro) (.inr ho) (fun b q hb z => (sb.2 b hb).trans z) hd ?_
  refine ⟨by rw [upd_ne O.ne]; exact ho,?_,O.ne,O'.obj,_,O'.ns,fun g => ?_,fun g hg => ?_⟩
  · have := length_putF f y fs; lia
  · show RelO ((putF f y fs).lookup g) (if g = f then some u else mA g)
    rw [lookup_putF]
    by_cases q : g = f
    · rw [if_pos q,if_pos q]; exact ry
    · rw [if_neg q,if_neg q]; exact r g
  · by_cases q : g = f
    · rw [q]; exact (keys_putF f y fs).1
    · refine (keys_putF f y fs).2 g (wi g fun z => hg ?_)
      show (if g = f then some u else mA g) = none
      rw [if_neg q]; exact z
theorem Inv.made (I : Inv X pins σ H s) : Inv X pins σ (upd (upd H s.heap.objs.size (.own (s.heap.objs.size + 1))) (s.heap.objs.size + 1) (.ins C s.heap.objs.size []))
    { s with heap := (s.heap.push PySem.W.emptyDict).push (PySem.W.instObj C s.heap.objs.size) } := by
  have e1 : (s.heap.push PySem.W.emptyDict).get? s.heap.objs.size = some PySem.W.emptyDict := Heap.get?_push_size s.heap rfl
  have e2 : ((s.heap.push PySem.W.emptyDict).push (PySem.W.instObj C s.heap.objs.size)).get? (s.heap.objs.size + 1) = some (PySem.W.instObj C s.heap.objs.size) := by
    have := Heap.get?_push_size (s.heap.push PySem.W.emptyDict) (o:=PySem.W.instObj C s.heap.objs.size) rfl
    rwa [Heap.size_push] at this
  have e3 : (s.heap.push PySem.W.emptyDict).Ns s.heap.objs.size (fun _ => none) := ⟨PySem.W.emptyDict,#[],_,e1,rfl,(fun e he => absurd he (by simp)),fun _ => rfl⟩
  have I1 := I.laid (a:=s.heap.objs.size) (o:=.own (s.heap.objs.size + 1)) (h':=s.heap.push PySem.W.emptyDict) (t':=s.toks) (fun b u q => Heap.get?_push_of_some _ q) (Nat.le_refl _) ⟨_,e1⟩
  refine I1.laid (a:=s.heap.objs.size + 1) (o:=.ins C s.heap.objs.size []) (t':=s.toks) (fun b u q => Heap.get?_push_of_some _ q) (Nat.le_of_eq (Heap.size_push _ _)) ?_
  have ne : s.heap.objs.size ≠ s.heap.objs.size + 1 := Nat.ne_of_lt (Nat.lt_succ_self _)
  refine ⟨by rw [upd_ne ne,upd_same],Nat.zero_le _,ne,e2,fun _ => none,(Heap.Ns1.of_empty e3).at fun o q => Heap.get?_push_of_some _ q,fun _ => True.intro,fun y hy => absurd rfl hy⟩
theorem attr_of {prog : Program} {w : World} {env : Env} {e : Expr} {f : Str} {pos : Pos} {s : Shared} {Q : Value → Shared → Prop} (hb : attributeBase e f env (eval e env) = eval e env)
    (h : wpAny (model prog w) A (eval e env) (fun o s₁ => wpAny (model prog w) A (getAttr o f true) Q E s₁) E s) : wpAny (model prog w) A (eval (.Attribute e f pos) env) Q E s :=
  Attribute_any_ h (by rw [arm_eval_Attribute,hb])
end
def tFld (K : PySem.W.Frag) (ta : TE) (f : Str) : TE := fun σ H Q => ta σ H fun x H1 => ∃ a C dx fs v,x = .ref a ∧ H1 a = some (.ins C dx fs) ∧ Cls K C ∧ NoAttr K C f ∧ fs.lookup f = some v ∧ Q v H1
def sFld (K : PySem.W.Frag) (ta tv : TE) (f : Str) : TS := fun D σ H => tv σ H fun y H1 => ta σ H1 fun x H2 => ∃ a C dx fs,x = .ref a ∧ H2 a = some (.ins C dx fs) ∧ Cls K C ∧ NoAttr K C f ∧ fs.length < 1000 ∧
  D.nx σ (upd H2 a (.ins C dx (putF f y fs)))
section
variable {X : Cx} {o e value : Expr} {f : Str} {pos pos' tpos : Pos} {ta tv : TE}
theorem pe_fld (he : PE X e ta) (hb : attributeBase e f X.env (eval e X.env) = eval e X.env) : PE X (.Attribute e f pos) (tFld X.K ta f) := by
  intro pins s σ H Q I h
  refine attr_of hb (thn (he pins s σ H _ I h) fun u s1 ⟨x,H1,I1,rx,a,C,dx,fs,v,ex,ea,c,n,l,q⟩ => ?_)
  subst ex
  obtain rfl : u = Value.ref a := rx
  exact getattr_ok I1 ea c n l fun u' s2 I2 ru => ⟨v,H1,I2,ru,q⟩
theorem ps_fld (ha : PE X o ta) (hv : PE X value tv) (hs : swapsWith value (some (.Attribute o f pos')) pos.line X.env = pure false) : PS X (.Assign [.Attribute o f pos'] value pos) (sFld X.K ta tv f) := by
  intro pins s σ H D I h
  refine plainObj_wpAny_Assign_Attribute (thn (hv pins s σ H _ I h) fun u s1 ⟨y,H1,I1,ry,q⟩ => thn (ha pins s1 σ H1 _ I1 q) fun ov s2 ⟨x,H2,I2,rx,a,C,dx,fs,ex,ea,c,n,l,q2⟩ => ?_) hs
  subst ex
  obtain rfl : ov = Value.ref a := rx
  exact setattr_ok I2 ea c n l ry fun s3 I3 => ⟨σ,_,I3,q2⟩
end
section
variable {X : Cx} {pins : List (Addr × Obj)} {σ : St} {H : Hp} {s : Shared} {A : Around} {E : Value → Shared → Prop} {Q : Value → Shared → Prop} {c : Value} {b : Bool}
inductive TyOf (K : PySem.W.Frag) (H : Hp) : V → Value → Prop where
  | non : TyOf K H .non (.type "NoneType")
  | bl (x : Bool) : TyOf K H (.bl x) (.type "bool")
  | int (i : Int) : TyOf K H (.int i) (.type "int")
  | str (x : Str) : TyOf K H (.str x) (.type "str")
  | flt (x : UInt64) : TyOf K H (.flt x) (.type "float")
  | lst {a : Addr} {xs : List V} (e : H a = some (.lst xs)) : TyOf K H (.ref a) (.type "list")
  | frz {a : Addr} {o : Obj} {xs : List V} (e : H a = some (.frz o (.lst xs))) : TyOf K H (.ref a) (.type "list")
  | tup {a : Addr} {xs : List V} (e : H a = some (.tup xs)) : TyOf K H (.ref a) (.type "tuple")
  | dK {a : Addr} {kvs : List (Key × V)} (e : H a = some (.dK kvs)) : TyOf K H (.ref a) (.type "dict")
  | dT {a : Addr} {kvs : List (List Key × V)} (e : H a = some (.dT kvs)) : TyOf K H (.ref a) (.type "dict")
  | ins {a C dx : Addr} {fs : List (Str × V)} (e : H a = some (.ins C dx fs)) (cl : Cls K C) (ha : PySem.W.findIn K (.ref C) "__class__" = some (some (.builtin "object.__class__")))
      (hn : PySem.W.specialIn K (.builtin "object.__class__") "__get__" = some (some (.builtin "getset_descriptor.__get__"))) (htk : PySem.W.takesIn K (.builtin "object.__class__") = some true)
      (hm : PySem.W.mroIn K C (.type "object") = some true) : TyOf K H (.ref a) (.ref C)
theorem isinst_ok {x : V} {u t : Value} (I : Inv X pins σ H s) (rx : RelV x u) (ty : TyOf X.K H x t) (e : PySem.W.kitOne X.K t c = some b) (h : ∀ tk,Q (.bool b) { s with toks := tk }) :
    wpAny (model X.prog X.w) A (call (.builtin "isinstance") [u,c]) Q E s := by
  cases ty with
  | non => cases (show u = Value.none from rx); exact PySem.W.kia_one PySem.W.kitx_none I.kIn True.intro e (fun z => nomatch z) h
  | bl y => cases (show u = Value.bool y from rx); exact PySem.W.kia_one PySem.W.kitx_bool I.kIn True.intro e (fun z => nomatch z) h
  | int i => obtain ⟨t,q⟩ := (show ∃ t,u = Value.int i t from rx); cases q; exact PySem.W.kia_one PySem.W.kitx_int I.kIn True.intro e (fun z => nomatch z) h
  | str y => obtain ⟨t,q⟩ := (show ∃ t,u = Value.str y t from rx); cases q; exact PySem.W.kia_one PySem.W.kitx_str I.kIn True.intro e (fun z => nomatch z) h
  | flt y => obtain ⟨t,q⟩ := (show ∃ t,u = Value.float y t from rx); cases q; exact PySem.W.kia_one PySem.W.kitx_float I.kIn True.intro e (fun z => nomatch z) h
  | @lst a xs ea =>
    cases (show u = Value.ref a from rx)
    obtain ⟨_,_,n,_,h1⟩ := (show ObjOk X.prog X.w H s.heap a (.lst xs) from I.hok a _ ea)
    exact PySem.W.kia_one PySem.W.kitx_list I.kIn ⟨_,h1,rfl⟩ e (fun z => nomatch z) h
  | @frz a ob xs ea =>
    cases (show u = Value.ref a from rx)
    obtain ⟨_,_,_,n,_,h1⟩ := (show ObjOk X.prog X.w H s.heap a (.frz ob (.lst xs)) from I.hok a _ ea)
    exact PySem.W.kia_one PySem.W.kitx_list I.kIn ⟨_,h1,rfl⟩ e (fun z => nomatch z) h
  | @tup a xs ea =>
    cases (show u = Value.ref a from rx)
    obtain ⟨_,_,_,p⟩ := (show ObjOk X.prog X.w H s.heap a (.tup xs) from I.hok a _ ea)
    obtain ⟨o,h1,h2,_⟩ := p
    exact PySem.W.kia_one PySem.W.kitx_tuple I.kIn ⟨o,h1,h2⟩ e (fun z => nomatch z) h
  | @dK a kvs ea =>
    cases (show u = Value.ref a from rx)
    obtain ⟨_,_,vs,_,p⟩ := (show ObjOk X.prog X.w H s.heap a (.dK kvs) from I.hok a _ ea)
    obtain ⟨o,es,ep,h1,h2,_⟩ := p
    exact PySem.W.kia_one PySem.W.kitx_dict I.kIn ⟨o,h1,h2.1⟩ e (fun z => nomatch z) h
  | @dT a kvs ea =>
    cases (show u = Value.ref a from rx)
    obtain ⟨_,_,xs,_,o,es,ep,h1,h2,_⟩ := (show ObjOk X.prog X.w H s.heap a (.dT kvs) from I.hok a _ ea)
    exact PySem.W.kia_one PySem.W.kitx_dict I.kIn ⟨o,h1,h2.1⟩ e (fun z => nomatch z) h
  | @ins a C dx fs ea cl ha hn htk hm =>
    cases (show u = Value.ref a from rx)
    obtain ⟨mA,O,_⟩ := ins_get I.hok ea
    obtain ⟨od,J,_⟩ := O.look
    exact PySem.W.kia_one (PySem.W.kitx_own (cl.get _) cl.hd ha hn htk hm) I.kIn J e (fun z => nomatch z) h
end
end L2
namespace L2
open PySem PySem.Spec PyProof.Rows
structure Room (k : Nat) (A : Around) : Prop where
  hd : A.handled = none
  dp : A.depth + 3 * k + 5 < recursionLimit
  un : A.units + 16 * k + 200 < cLine
theorem Room.mono {j k : Nat} {A : Around} (r : Room k A) (h : j ≤ k) : Room j A := ⟨r.hd,by have := r.dp; lia,by have := r.un; lia⟩
theorem Room.deeper {k : Nat} {A : Around} (r : Room (k + 1) A) (env : Env) : Room k (A.deeper env) :=
  ⟨r.hd,by have := r.dp; show A.depth + 1 + 3 * k + 5 < _; lia,by have := r.un; show A.units + 3 + 16 * k + 200 < _; lia⟩
theorem make_depth {A : Around} {C : Addr} {us : List Value} {kw : List (Str × Value)} : (A.under (.builtin "type.__call__" ⟨.ref C :: us,kw⟩)).depth = A.depth + 1 := by
  first | rfl | simp [Around.under,Code.weight,Code.isCreation,Code.isGuard,Code.isCaller,Code.frames,Code.isFrame,guardIds]
theorem make_units {A : Around} {C : Addr} {us : List Value} {kw : List (Str × Value)} : (A.under (.builtin "type.__call__" ⟨.ref C :: us,kw⟩)).units = A.units + 1 := by
  first | rfl | simp [Around.under,Code.cUnits,Code.frames,Code.isFrame]
theorem Room.make {k : Nat} {A : Around} (r : Room (k + 1) A) (C : Addr) (us : List Value) (kw : List (Str × Value)) : Room k (A.under (.builtin "type.__call__" ⟨.ref C :: us,kw⟩)) :=
  ⟨r.hd,by have := r.dp; rw [make_depth]; omega,by have := r.un; rw [make_units]; omega⟩
theorem Room.depth {k : Nat} {A : Around} (r : Room k A) : A.depth < recursionLimit := by have := r.dp; lia
def tNil : TA := fun _ H Q => Q [] H
def tCons (ta : TE) (tr : TA) : TA := fun σ H Q => ta σ H fun x H1 => tr σ H1 fun xs H2 => Q (x :: xs) H2
section
variable {X : Cx} {e : Expr} {es : List Expr} {te : TE} {t : TA} {pos : Pos}
theorem pa_nil : PA X [] tNil := fun _ _ _ _ H Q I h => Calls.spliced_nil ⟨[],H,I,.nil,h⟩
theorem pa_cons (ha : PE X e te) (hr : PA X es t) (hs : starEach (e :: es) X.env = (false,eval e X.env) :: starEach es X.env := by rfl) : PA X (e :: es) (tCons te t) := by
  intro pos pins s σ H Q I h
  rw [hs]
  show wpAny _ _ (spliced ((false,eval e X.env) :: backTo pos (starEach es X.env))) _ _ s
  refine Calls.spliced_cons (thn (ha pins s σ H _ I h) fun u s1 ⟨x,H1,I1,r1,q1⟩ => ?_)
  exact thn (hr pos pins s1 σ H1 _ I1 q1) fun us s2 ⟨xs,H2,I2,r2,q2⟩ => ⟨x :: xs,H2,I2,.cons r1 r2,q2⟩
def tTup (t : TA) : TE := fun σ H Q => t σ H fun xs H1 => xs.length ≤ sizeLine ∧ ∀ p,H1 p = none → Q (.ref p) (upd H1 p (.tup xs))
def tLst (t : TA) : TE := fun σ H Q => t σ H fun xs H1 => xs.length ≤ sizeLine ∧ ∀ p,H1 p = none → Q (.ref p) (upd H1 p (.lst xs))
theorem pe_tup {x1} (h : PA X es t) : PE X (.Tuple es x1 pos) (tTup t) := by
  intro pins s σ H Q I hq
  refine wpAny_Tuple_spliced (thn (h pos pins s σ H _ I hq) fun us s1 ⟨xs,H1,I1,r,z,q⟩ => ⟨by rw [← r.length]; exact z,?_⟩)
  have hf : H1 s1.heap.objs.size = none := I1.hok.fresh (Nat.le_refl _)
  refine ⟨.ref s1.heap.objs.size,upd H1 s1.heap.objs.size (.tup xs),I1.laid (t':=s1.toks) (fun b u e => Heap.get?_push_of_some _ e) (Nat.le_refl _) ?_,rfl,q _ hf⟩
  exact ⟨z,us,r,⟨_,Heap.get?_push_size _ rfl,rfl,_,rfl⟩⟩
theorem pe_lst (h : PA X es t) : PE X (.List es pos) (tLst t) := by
  intro pins s σ H Q I hq
  refine wpAny_List_spliced (thn (h pos pins s σ H _ I hq) fun us s1 ⟨xs,H1,I1,r,z,q⟩ => ⟨by rw [← r.length]; exact z,?_⟩)
  have hf : H1 s1.heap.objs.size = none := I1.hok.fresh (Nat.le_refl _)
  refine ⟨.ref s1.heap.objs.size,upd H1 s1.heap.objs.size (.lst xs),I1.laid (t':=s1.toks) (fun b u e => Heap.get?_push_of_some _ e) (Nat.le_refl _) ?_,rfl,q _ hf⟩
  exact ⟨z,us,0,r,Heap.get?_push_size _ rfl⟩
end
abbrev Sp := List V → Hp → VK → XK → Prop
abbrev CXT := List Env → Hp → Shared → XK → Value → Shared → Prop
structure Env0 (P : Program) (w : World) (K : PySem.W.Frag) (mg : Str → Option Value) (base : Heap) (A : Around) (outer : List Env) (s : Shared) (H : Hp) : Prop where
  frames : A.frames = some outer
  mod : Mod K mg base
  bs : ∀ b o,base.get? b = some o → s.heap.get? b = some o ∧ H b = none
  bsz : base.objs.size ≤ s.heap.objs.size
  funs : s.heap.FunFrames base outer
  frf : ∀ b ∈ frs outer,H b = none
  hok : HOk P w H s.heap
  bare : AllBare s.gens
def CE (outer : List Env) (P : Program) (w : World) (H : Hp) (s : Shared) (Q : VK) (u : Value) (s' : Shared) : Prop :=
  ∃ v H',s'.os = s.os ∧ AllBare s'.gens ∧ Un (frs outer) [] H H' s.heap s'.heap ∧ HOk P w H' s'.heap ∧ RelV v u ∧ Q v H'
def CR (CX : CXT) (outer : List Env) (P : Program) (w : World) (H : Hp) (s : Shared) (Q : VK) (E : XK) (r : Result) (s' : Shared) : Prop :=
  match r with
  | .ok (.ret u) => CE outer P w H s Q u s'
  | .ok _ => False
  | .error e => CX outer H s E e s'
structure FnOk (P : Program) (w : World) (K : PySem.W.Frag) (mg : Str → Option Value) (base : Heap) (CX : CXT) (k : Nat) (f : Addr) (fd : FuncData) (ps : List Str) (sp : Sp) : Prop where
  len : ∀ vs H Q E,sp vs H Q E → vs.length = ps.length
  run : ∀ (A : Around) (outer : List Env) (s : Shared) (H : Hp) (args : Args) (us : List Value) (vs : List V) (Q : VK) (E : XK),Room k A → Env0 P w K mg base A outer s H → BindsTo s fd args (ps.zip us) → Vals vs us → sp vs H Q E →
    codeAny (model P w) A (.call (.ref f) args) (CR CX outer P w H s Q E) s
theorem FnOk.mono {P : Program} {w : World} {K : PySem.W.Frag} {mg : Str → Option Value} {base : Heap} {CX : CXT} {j k : Nat} {f : Addr} {fd : FuncData} {ps : List Str} {sp : Sp} (F : FnOk P w K mg base CX j f fd ps sp) (h : j ≤ k) :
    FnOk P w K mg base CX k f fd ps sp := ⟨F.len,fun A outer s H args us vs Q E hr => F.run A outer s H args us vs Q E (hr.mono h)⟩
theorem FnOk.imp {P : Program} {w : World} {K : PySem.W.Frag} {mg : Str → Option Value} {base : Heap} {CX : CXT} {k : Nat} {f : Addr} {fd : FuncData} {ps : List Str} {sp sp' : Sp} (F : FnOk P w K mg base CX k f fd ps sp)
    (h : ∀ vs H Q E,sp' vs H Q E → sp vs H Q E) : FnOk P w K mg base CX k f fd ps sp' :=
  ⟨fun vs H Q E q => F.len vs H Q E (h _ _ _ _ q),fun A outer s H args us vs Q E hr he hb hv hs => F.run A outer s H args us vs Q E hr he hb hv (h _ _ _ _ hs)⟩
theorem Env0.make {P : Program} {w : World} {K : PySem.W.Frag} {mg : Str → Option Value} {base : Heap} {A : Around} {outer : List Env} {s : Shared} {H : Hp} (e : Env0 P w K mg base A outer s H) (C : Addr) (us : List Value) (kw : List (Str × Value)) :
    Env0 P w K mg base (A.under (.builtin "type.__call__" ⟨.ref C :: us,kw⟩)) outer s H := ⟨by first | exact e.frames | (simpa [Around.under,Code.envs,Code.isFrame,pushEnvs] using e.frames),e.mod,e.bs,e.bsz,e.funs,e.frf,e.hok,e.bare⟩
section
variable {X : Cx} {pins : List (Addr × Obj)} {σ : St} {H : Hp} {s s' : Shared}
theorem Inv.env0 (I : Inv X pins σ H s) : Env0 X.prog X.w X.K X.mg X.base X.A X.stack s H :=
  ⟨I.ok.frames,I.ok.mod,I.bs,Nat.le_trans I.ok.bsz I.sz,I.stack,I.stkFree,I.hok,I.bare⟩
theorem Inv.after {Q : VK} {u : Value} (I : Inv X pins σ H s) (h : CE X.stack X.prog X.w H s Q u s') : EP X pins σ Q u s' := by
  obtain ⟨v,H',os,bare,un,hok,r,q⟩ := h
  obtain ⟨hh,g,d,t,os'⟩ := s'
  obtain rfl : os' = s.os := os
  exact ⟨v,H',I.call (h':=hh) (g':=g) (d':=d) (t':=t) (ch:=[]) un hok bare (fun b z => absurd z (by simp)),r,q⟩
end
def tCall (sp : Sp) (dvs : List V) (E : XK) (t : TA) : TE := fun σ H Q => t σ H fun vs H1 => sp (vs ++ dvs) H1 Q E
def tMake (C : Addr) (sp : Sp) (dvs : List V) (E : XK) (t : TA) : TE := fun σ H Q => t σ H fun vs H1 => ∀ x dx,H1 x = none → H1 dx = none → dx ≠ x →
  sp (.ref x :: (vs ++ dvs)) (upd (upd H1 dx (.own x)) x (.ins C dx [])) (fun v H2 => v = .non ∧ Q (.ref x) H2) E
def Binds (K : PySem.W.Frag) (fd : FuncData) (ps : List Str) (ds : List Value) : Prop :=
  ∀ (s : Shared) (us : List Value),K.In s.heap → (us ++ ds).length = ps.length → BindsTo s fd ⟨us,[]⟩ (ps.zip (us ++ ds))
theorem Binds.all {K : PySem.W.Frag} {fd : FuncData} {ps : List Str} (h : ∀ us : List Value,us.length = ps.length → bindArgs fd ⟨us,[]⟩ = pure (ps.zip us)) : Binds K fd ps [] := fun s us _ hl => by
  rw [List.append_nil] at hl ⊢
  exact .of_eq (h us hl)
def Passes (CX : CXT) (X : Cx) (E : XK) : Prop := ∀ (pins : List (Addr × Obj)) (σ : St) (H : Hp) (s : Shared) (e : Value) (s' : Shared),Inv X pins σ H s → CX X.stack H s E e s' → X.xe e s'
section
variable {X : Cx} {CX : CXT} {k : Nat} {f C : Addr} {fd : FuncData} {ps : List Str} {sp : Sp} {dvs : List V} {ds : List Value} {E : XK} {x m : Str} {p pos apos : Pos} {e o : Expr} {es : List Expr} {ta : TE} {t : TA}
theorem run_fn {pins : List (Addr × Obj)} {σ : St} {H : Hp} {s : Shared} {Q : VK} {us : List Value} {vs : List V} (F : FnOk X.prog X.w X.K X.mg X.base CX k f fd ps sp) (hr : Room k X.A) (hb : Binds X.K fd ps ds) (hd : Vals dvs ds) (hx : Passes CX X E)
    (I : Inv X pins σ H s) (r : Vals vs us) (h : sp (vs ++ dvs) H Q E) : wpAny (model X.prog X.w) X.A (call (.ref f) us) (EP X pins σ Q) X.xe s := by
  have r2 : Vals (vs ++ dvs) (us ++ ds) := r.append hd
  have hl : (us ++ ds).length = ps.length := by rw [← r2.length]; exact F.len _ _ _ _ h
  refine wpAny_call (codeAny_mono (F.run X.A X.stack s H ⟨us,[]⟩ (us ++ ds) (vs ++ dvs) Q E hr I.env0 (hb s us I.kIn hl) r2 h) fun r s' hq => ?_)
  cases r with
  | error e => exact hx pins σ H s e s' I hq
  | ok fl =>
    cases fl with
    | ret u => exact I.after hq
    | next => exact False.elim hq
    | brk => exact False.elim hq
    | cont => exact False.elim hq
theorem pe_call (F : FnOk X.prog X.w X.K X.mg X.base CX k f fd ps sp) (hr : Room k X.A) (hg : Gl X x) (hm : X.mg x = some (.ref f)) (hk : PySem.W.keepIn X.K (.ref f) = true) (hb : Binds X.K fd ps ds) (hd : Vals dvs ds) (hx : Passes CX X E)
    (ha : PA X (e :: es) t) (hdb : (x == ("__debug__" : Str)) = false := by decide) (he : starEach (e :: es) X.env = (false,eval e X.env) :: starEach es X.env := by rfl) (hpl : (backTo pos (starEach es X.env)).any (·.1) = false := by rfl) :
    PE X (.Call (.Name x p) (e :: es) [] pos) (tCall sp dvs E t) := by
  intro pins s σ H Q I h
  refine wpAny_Call_Name_kw (ld_glob I hg hm ?_ hdb)
  refine PySem.W.callWith_K (h₀ := X.base) I.ok.mod.kin hk (thn (ha pos pins s σ H _ I h) fun us s1 ⟨vs,H1,I1,r,q⟩ => ⟨I1.kIn,?_⟩) he hpl
  exact run_fn F hr hb hd hx I1 r q
structure Mk (K : PySem.W.Frag) (C f : Addr) : Prop where
  makes : PySem.W.makesIn K C = true
  init : PySem.W.findIn K (.ref C) "__init__" = some (some (.ref f))
  fn : PySem.W.isFn K (.ref f) = true
  kp : PySem.W.keepIn K (.ref C) = true
theorem run_make {pins : List (Addr × Obj)} {σ : St} {H : Hp} {s : Shared} {Q : VK} {us : List Value} {vs : List V} (M : Mk X.K C f) (F : FnOk X.prog X.w X.K X.mg X.base CX k f fd ps sp) (hr : Room (k + 1) X.A) (hb : Binds X.K fd ps ds) (hd : Vals dvs ds)
    (hx : Passes CX X E) (I : Inv X pins σ H s) (r : Vals vs us)
    (h : ∀ x dx,H x = none → H dx = none → dx ≠ x → sp (.ref x :: (vs ++ dvs)) (upd (upd H dx (.own x)) x (.ins C dx [])) (fun v H2 => v = .non ∧ Q (.ref x) H2) E) :
    wpAny (model X.prog X.w) X.A (call (.ref C) us) (EP X pins σ Q) X.xe s := by
  have hq := h (s.heap.objs.size + 1) s.heap.objs.size (I.hok.fresh (Nat.le_succ _)) (I.hok.fresh (Nat.le_refl _)) (Nat.ne_of_lt (Nat.lt_succ_self _))
  have I2 := Inv.made (C:=C) I
  have r2 : Vals (V.ref (s.heap.objs.size + 1) :: (vs ++ dvs)) (Value.ref (s.heap.objs.size + 1) :: (us ++ ds)) := .cons rfl (r.append hd)
  have hl : (Value.ref (s.heap.objs.size + 1) :: us ++ ds).length = ps.length := by
    have e := r2.length
    rw [F.len _ _ _ _ hq] at e
    exact e.symm
  refine wpAny_call (make_map (f:=f) I.kIn M.makes M.init (beq_iff_eq.mp M.fn) (codeAny_mono (F.run _ X.stack _ _ ⟨Value.ref (s.heap.objs.size + 1) :: us,[]⟩ (Value.ref (s.heap.objs.size + 1) :: (us ++ ds)) _ _ E (hr.make C us [])
    (I2.env0.make C us []) (hb _ (Value.ref (s.heap.objs.size + 1) :: us) I2.kIn hl) r2 hq) fun r s' hq' => ?_))
  cases r with
  | error e => exact hx pins σ _ _ e s' I2 hq'
  | ok fl =>
    cases fl with
    | ret u =>
      obtain ⟨v,H',I3,rv,ev,q3⟩ := I2.after hq'
      subst ev
      exact ⟨rv,⟨V.ref (s.heap.objs.size + 1),H',I3,rfl,q3⟩⟩
    | next => exact False.elim hq'
    | brk => exact False.elim hq'
    | cont => exact False.elim hq'
end
section
variable {X : Cx} {CX : CXT} {k : Nat} {f C : Addr} {fd : FuncData} {ps ks : List Str} {sp : Sp} {E : XK} {x m : Str} {p pos apos kpos : Pos} {e o : Expr} {es : List Expr} {kws : List Keyword} {te ta : TE} {t tk : TA} {nm : Option Str}
structure KBinds (K : PySem.W.Frag) (fd : FuncData) (ps ks : List Str) (g : List Value → List Value → List Value) (gV : List V → List V → List V) : Prop where
  to : ∀ (s : Shared) (us ws : List Value),K.In s.heap → (g us ws).length = ps.length → BindsTo s fd ⟨us,ks.zip ws⟩ (ps.zip (g us ws))
  rel : ∀ {vs : List V} {us : List Value} {zs : List V} {ws : List Value},Vals vs us → Vals zs ws → Vals (gV vs zs) (g us ws)
variable {g : List Value → List Value → List Value} {gV : List V → List V → List V}
end
structure FnScope (N P : List Str) (sc : Scope) : Prop where
  kind : sc.kind = .function
  co : sc.isCoroutine = false
  gen : sc.isGenerator = false
  nd : N.Nodup
  pre : N.take P.length = P
  par : ∀ x ∈ P,sc.names.lookup x = some .local ∨ sc.names.lookup x = some .cell
  nofree : ∀ y ∈ sc.names,y.2 ≠ .free
theorem bindL_out {kindOf : Str → Option NameKind} {x : Str} : ∀ {binds : List (Str × Value)} {m : Str → Option Value},(∀ v,(x,v) ∉ binds) → bindL kindOf binds m x = m x
  | [],_,_ => rfl
  | (n,v) :: r,m,h => by
    unfold bindL
    rw [bindL_out fun w hw => h w (List.mem_cons_of_mem _ hw)]
    split
    · have : x ≠ n := by rintro rfl; exact h v List.mem_cons_self
      simp [this]
    · rfl
theorem bindC_out {kindOf : Str → Option NameKind} {x : Str} : ∀ {binds : List (Str × Value)} {m : Str → Option Value},(∀ v,(x,v) ∉ binds) → bindC kindOf binds m x = m x
  | [],_,_ => rfl
  | (n,v) :: r,m,h => by
    unfold bindC
    rw [bindC_out fun w hw => h w (List.mem_cons_of_mem _ hw)]
    split
    · rfl
    · have : x ≠ n := by rintro rfl; exact h v List.mem_cons_self
      simp [this]
theorem bindL_get {kindOf : Str → Option NameKind} {x : Str} {v : Value} : ∀ {P : List Str} {vs : List Value} {i : Nat} {m : Str → Option Value},P.Nodup → P[i]? = some x → vs[i]? = some v → kindOf x = some .local →
    bindL kindOf (P.zip vs) m x = some v
  | [],_,_,_,_,h,_,_ => by simp at h
  | _ :: _,[],_,_,_,_,h,_ => by simp at h
  | p :: P,w :: vs,0,m,nd,h1,h2,hk => by
    simp at h1 h2; subst h1; subst h2
    show bindL kindOf ((p,w) :: P.zip vs) m p = _
    unfold bindL
    rw [bindL_out fun v hv => (List.nodup_cons.mp nd).1 (List.of_mem_zip hv).1,if_pos hk]
    simp
  | p :: P,w :: vs,i + 1,m,nd,h1,h2,hk => by
    show bindL kindOf ((p,w) :: P.zip vs) m x = _
    unfold bindL
    exact bindL_get (i:=i) (List.nodup_cons.mp nd).2 (by simpa using h1) (by simpa using h2) hk
theorem bindC_get {kindOf : Str → Option NameKind} {x : Str} {v : Value} : ∀ {P : List Str} {vs : List Value} {i : Nat} {m : Str → Option Value},P.Nodup → P[i]? = some x → vs[i]? = some v → kindOf x ≠ some .local →
    bindC kindOf (P.zip vs) m x = some v
  | [],_,_,_,_,h,_,_ => by simp at h
  | _ :: _,[],_,_,_,_,h,_ => by simp at h
  | p :: P,w :: vs,0,m,nd,h1,h2,hk => by
    simp at h1 h2; subst h1; subst h2
    show bindC kindOf ((p,w) :: P.zip vs) m p = _
    unfold bindC
    rw [bindC_out fun v hv => (List.nodup_cons.mp nd).1 (List.of_mem_zip hv).1,if_neg hk]
    simp
  | p :: P,w :: vs,i + 1,m,nd,h1,h2,hk => by
    show bindC kindOf ((p,w) :: P.zip vs) m x = _
    unfold bindC
    exact bindC_get (i:=i) (List.nodup_cons.mp nd).2 (by simpa using h1) (by simpa using h2) hk
def start (N : List Str) (vs : List V) : St := vs.map some ++ List.replicate (N.length - vs.length) none
def cxOf (CX : CXT) (P : Program) (w : World) (K : PySem.W.Frag) (mg : Str → Option Value) (base : Heap) (N : List Str) (qual : Str) (scope : Scope) (f : Addr) (cd : Value) (A : Around) (outer : List Env) (s : Shared) (H : Hp) (E : XK) : Cx where
  prog := P
  w := w
  K := K
  mg := mg
  base := base
  A := A.deeper (envOfC qual scope s.heap.objs.size f cd)
  N := N
  s₀ := s
  H₀ := H
  env := envOfC qual scope s.heap.objs.size f cd
  outer := outer
  stack := envOfC qual scope s.heap.objs.size f cd :: outer
  ex := []
  calm := true
  fn := fun _ => true
  pn := []
  xe := fun e s' => wpAny (model P w) (A.deeper (envOfC qual scope s.heap.objs.size f cd)) (leaving (envOfC qual scope s.heap.objs.size f cd) e) (fun _ s'' => CX outer H s E e s'') (fun e' s'' => CX outer H s E e' s'') s'
theorem cell_has {sc : Scope} {n : Nat} {x : Str} (h : sc.names.lookup x = some .cell) : ∃ c,(cellsFrom n sc.names []).lookup x = some c := by
  have q := PySem.W.cellsFrom_some sc.names n [] (.inl h)
  exact Option.isSome_iff_exists.mp q
theorem inv_start {CX : CXT} {P : Program} {w : World} {K : PySem.W.Frag} {mg : Str → Option Value} {base : Heap} {N ps : List Str} {qual : Str} {scope : Scope} {f : Addr} {cd : Value} {A : Around} {outer : List Env} {s s1 : Shared} {H : Hp} {E : XK} {us : List Value} {vs : List V}
    (S : FnScope N ps scope) (hd : A.handled = none) (e0 : Env0 P w K mg base A outer s H) (hl : vs.length = ps.length) (r : Vals vs us)
    (x : InCallC s s.heap.objs.size (bindL (envOfC qual scope s.heap.objs.size f cd).kindOf (ps.zip us) fun _ => none) (cellsFrom (s.heap.objs.size + 1) scope.names []) (bindC (envOfC qual scope s.heap.objs.size f cd).kindOf (ps.zip us) fun _ => none) s1) :
    Inv (cxOf CX P w K mg base N qual scope f cd A outer s H E) [] (start N vs) H s1 := by
  have hpl : ps.length ≤ N.length := by have := congrArg List.length S.pre; rw [List.length_take] at this; lia
  obtain ⟨h1,tk,rfl,hk⟩ := x.done
  have noA : ∀ b : Addr,b ∉ (cxOf CX P w K mg base N qual scope f cd A outer s H E).ex := fun b z => absurd (show b ∈ ([] : List Addr) from z) (by simp)
  refine ⟨⟨e0.mod,S.kind,rfl,rfl,Nat.le_refl _,fun y z c h1 h2 => ?_,fun y hy => ?_,fun y c _ h => ?_,fun _ => hd,Around.frames_deeper e0.frames,.inr ⟨rfl,rfl⟩,fun b z => absurd z (noA b),e0.bs,e0.bsz,fun b _ _ => noA b,fun b z => absurd z (noA b),e0.funs,e0.frf⟩,
    rfl,e0.bare,Un.kept hk,⟨_,x.toInCall.ns,fun i y v h1 h2 h3 => ?_⟩,fun y c h => ⟨_,x.cell y c h⟩,e0.hok.fresh (Nat.le_refl _),fun y c h => ?_,fun p hp => absurd (show p ∈ ([] : List (Addr × Obj)) from hp) (by simp),e0.hok.kept hk,?_⟩
  · exact name_of_addr x.apart (PySem.mem_of_lookup h1) (PySem.mem_of_lookup h2)
  · have hy : scope.names.lookup y = some .cell ∨ scope.names.lookup y = some .free := hy
    rcases hy with hy | hy
    · exact cell_has hy
    · exact absurd rfl (S.nofree _ (PySem.mem_of_lookup hy))
  · exact Nat.le_of_lt (x.above y c (PySem.mem_of_lookup h))
  · have hi : i < vs.length := by
      unfold start at h2
      by_cases hi : i < vs.length
      · exact hi
      · rw [List.getElem?_append_right (by simpa using hi)] at h2
        rw [List.getElem?_replicate] at h2
        split at h2 <;> cases h2
    have ha : vs[i]? = some v := by
      unfold start at h2
      rw [List.getElem?_append_left (by simpa using hi),List.getElem?_map] at h2
      cases e : vs[i]? with
      | none => rw [e] at h2; cases h2
      | some a => rw [e] at h2; cases h2; rfl
    obtain ⟨u,hu,rv⟩ := r.get ha
    have hp : ps[i]? = some y := by
      rw [← S.pre,List.getElem?_take_of_lt (by lia)]; exact h1
    have ndP : ps.Nodup := by rw [← S.pre]; exact S.nd.sublist (List.take_sublist _ _)
    refine ⟨u,rv,?_⟩
    rcases S.par y (List.mem_of_getElem? hp) with k | k
    · exact .inl ⟨k,bindL_get ndP hp hu k⟩
    · obtain ⟨c,e⟩ := cell_has (n:=s.heap.objs.size + 1) k
      refine .inr ⟨.inl k,c,e,?_⟩
      have q := x.cell y c e
      rw [bindC_get ndP hp hu (by show scope.names.lookup y ≠ _; rw [k]; decide)] at q
      exact q
  · exact e0.hok.fresh (Nat.le_of_lt (x.above y c (PySem.mem_of_lookup h)))
  · unfold start
    show _ = N.length
    rw [List.length_append,List.length_map,List.length_replicate]
    lia
theorem fn_of {CX : CXT} {P : Program} {w : World} {K : PySem.W.Frag} {mg : Str → Option Value} {base : Heap} {k : Nat} {f : Addr} {name qual : Str} {params : Arguments} {body : List Stmt} {scope : Scope} {dV kV doc pm cdv ct oc : Value} {an od : Option Addr}
    {osl : Array (Option Value)} {N ps : List Str} {sp : Sp} (lk : K.lookup f = some ⟨oc,od,.func (PySem.W.fnOf name qual params body scope dV kV doc pm an cdv ct),osl⟩) (hcd : PySem.W.codeIn K cdv qual = true) (S : FnScope N ps scope)
    (len : ∀ vs H Q E,sp vs H Q E → vs.length = ps.length)
    (hbody : ∀ (A : Around) (outer : List Env) (s : Shared) (H : Hp) (vs : List V) (Q : VK) (E : XK),Room k (A.deeper (envOfC qual scope s.heap.objs.size f cdv)) → sp vs H Q E →
      ∃ t,PSs (cxOf CX P w K mg base N qual scope f cdv A outer s H E) body t ∧ t { nx := fun _ H' => Q .non H',rt := Q } (start N vs) H) :
    FnOk P w K mg base CX (k + 1) f (PySem.W.fnOf name qual params body scope dV kV doc pm an cdv ct) ps sp := by
  refine ⟨len,fun A outer s H args us vs Q E hr e0 hb r hsp => ?_⟩
  have hl := len _ _ _ _ hsp
  have KX : K.In s.heap := e0.mod.kin.keeps fun b o e => (e0.bs b o e).1
  have lim : s.heap.NoLimit := e0.mod.nolimit.keeps fun b o e => (e0.bs b o e).1
  have hkind : ∀ y ∈ ps.zip us,scope.names.lookup y.1 = some .local ∨ (scope.names.lookup y.1 = some .cell ∧ ((cellsFrom (s.heap.objs.size + 1) scope.names []).lookup y.1).isSome = true) := fun ⟨n,v⟩ hy => by
    rcases S.par n (List.of_mem_zip hy).1 with q | q
    · exact .inl q
    · exact .inr ⟨q,PySem.W.cellsFrom_some _ _ _ (.inl q)⟩
  refine codeAny_call_function hr.depth (KX _ _ lk) rfl S.co S.gen rfl (PySem.W.codeRec_of KX hcd) (hb _ _ _ _ ?_)
  refine wpAny_newFunctionEnv_cells S.kind hkind fun env he s1 x => ?_
  subst he
  refine ⟨lim.keeps x.toInCall.keep,codeAny_func ?_⟩
  obtain ⟨t,ht,hq⟩ := hbody A outer s H vs Q E (hr.deeper _) hsp
  have I : Inv (cxOf CX P w K mg base N qual scope f cdv A outer s H E) [] (start N vs) H s1 := inv_start S hr.hd e0 hl r x
  refine wpAny_mono (ht [] s1 (start N vs) H _ I hq) (fun fl s' hs => ?_) fun e s' hs => hs
  have fin : ∀ {σ' : St} {H' : Hp} {v : V} {u : Value},Inv (cxOf CX P w K mg base N qual scope f cdv A outer s H E) [] σ' H' s' → RelV v u → Q v H' → CE outer P w H s Q u s' :=
    fun {σ' H' v u} J rv q => ⟨v,H',J.os,J.bare,J.base,J.hok,rv,q⟩
  cases fl with
  | ret u =>
    obtain ⟨v,σ',H',J,rv,q⟩ := hs
    exact fin J rv q
  | next =>
    obtain ⟨σ',H',J,q⟩ := hs
    exact fin (v:=V.non) (u:=Value.none) J rfl q
  | brk =>
    obtain ⟨_,_,_,q⟩ := hs
    exact False.elim q
  | cont =>
    obtain ⟨_,_,_,q⟩ := hs
    exact False.elim q
end L2
namespace L2
open PySem PySem.Spec PyProof.Rows
section
variable {X : Cx} {x : Str} {p pos : Pos} {e : Expr} {es : List Expr} {t : TA} {id T : String} {r : List V → Hp → VK → Prop}
def tCB (r : List V → Hp → VK → Prop) (t : TA) : TE := fun σ H Q => t σ H fun vs H1 => r vs H1 Q
theorem pe_callB (hc : CallR X (.builtin id) r) (hg : Gl X x) (hm : X.mg x = none) (hv : bootBuiltins x = some (.builtin id)) (ha : PA X (e :: es) t) (hn : x ≠ "__name__" := by decide) (hdb : (x == ("__debug__" : Str)) = false := by decide)
    (he : starEach (e :: es) X.env = (false,eval e X.env) :: starEach es X.env := by rfl) (hpl : (backTo pos (starEach es X.env)).any (·.1) = false := by rfl) : PE X (.Call (.Name x p) (e :: es) [] pos) (tCB r t) := by
  intro pins s σ H Q I h
  refine wpAny_Call_Name_kw (ld_blt I hg hm hv ?_ hn hdb)
  exact PyProof.Rows.callWith_builtin1 (thn (ha pos pins s σ H _ I h) fun us s1 ⟨vs,H1,I1,r1,q1⟩ => hc pins s1 σ H1 vs us Q I1 r1 q1) he hpl
theorem pe_callTy (hc : CallR X (.type T) r) (hg : Gl X x) (hm : X.mg x = none) (hv : bootBuiltins x = some (.type T)) (ha : PA X (e :: es) t) (hn : x ≠ "__name__" := by decide) (hdb : (x == ("__debug__" : Str)) = false := by decide)
    (he : starEach (e :: es) X.env = (false,eval e X.env) :: starEach es X.env := by rfl) (hpl : (backTo pos (starEach es X.env)).any (·.1) = false := by rfl) : PE X (.Call (.Name x p) (e :: es) [] pos) (tCB r t) := by
  intro pins s σ H Q I h
  refine wpAny_Call_Name_kw (ld_blt I hg hm hv ?_ hn hdb)
  exact PyProof.Rows.callWith_type1 (thn (ha pos pins s σ H _ I h) fun us s1 ⟨vs,H1,I1,r1,q1⟩ => hc pins s1 σ H1 vs us Q I1 r1 q1) he hpl
end
end L2
namespace HT
open PySem PyProof.Rows
def lexLt : List Int → List Int → Bool
  | [],[] => false
  | [],_ :: _ => true
  | _ :: _,[] => false
  | x :: xs,y :: ys => if x = y then lexLt xs ys else decide (x < y)
theorem lexLt_cons (x y : Int) (xs ys : List Int) : lexLt (x :: xs) (y :: ys) = if x = y then lexLt xs ys else decide (x < y) := rfl
theorem lexLt_nil_nil : lexLt [] [] = false := rfl
theorem lexLt_nil_cons (y : Int) (ys : List Int) : lexLt [] (y :: ys) = true := rfl
theorem lexLt_cons_nil (x : Int) (xs : List Int) : lexLt (x :: xs) [] = false := rfl
theorem eqAt_int (A : Around) (s : Shared) (a : Int) (t : Tok) (c : Int) (u : Tok) : ∃ e,SeqAt.EqAt A s (.int a t) (.int c u) e ∧ (e = true ↔ a = c) :=
  ⟨(a == c),SeqAt.EqAt.int_int a t c u,by simp⟩
theorem rcLt_int (A : Around) (s : Shared) (a : Int) (t : Tok) (c : Int) (u : Tok) (prog : Program) (w : World) (E : Value → Shared → Prop) (Q : Value → Shared → Prop) (h : Q (.bool (decide (a < c))) s) :
    wpAny (model prog w) A (richCompare .Lt (.int a t) (.int c u)) Q E s :=
  (PyProof.Rows.lt_int h : wpAny (model prog w) A (compareOp .Lt (.int a t) (.int c u)) Q E s)
section
open PySem.SeqAt
open PySem.AutoSeq1 (wpAny_loadPart')
open PySem.MeetsSeq PySem.MeetsSeq2 PySem.MeetsSeq3
theorem tuple_lt_ints (l b : Addr) (items items2 : Array Value) (n n2 : Nat) (dd dd2 : Option Addr) (sl sl2 : Array (Option Value)) (ns ms : List Int) (hi : IntsAre items.toList ns) (hj : IntsAre items2.toList ms) :
    Meets (Builtin.«tuple.__lt__» ⟨[.ref l,.ref b],[]⟩)
      (fun _ R s => s.heap.get? l = some { cls := .type "tuple",dict := dd,data := .seq items n,slots := sl } ∧ s.heap.get? b = some { cls := .type "tuple",dict := dd2,data := .seq items2 n2,slots := sl2 } ∧
        R (.ok (.ret (.bool (lexLt ns ms)))) s) :=
  .of_wp fun prog w A R s h => by
    obtain ⟨hp,g,d,tk,os⟩ := s; obtain ⟨hl,hb,h⟩ := h
    have f2 := AutoSeq1.sub_tuple_tuple
    have z1 : items.size = ns.length := by rw [← hi.length]; simp
    have z2 : items2.size = ms.length := by rw [← hj.length]; simp
    wp_walk using wpAny_loadPart' hl,wpAny_loadPart' hb,wpAny_forIn_list _ (fun rest b s' => b.1 = none ∧ s' = ⟨hp,g,d,tk,os⟩ ∧ ∃ (vs ws : List Value) (ns' ms' : List Int),rest = vs.zip ws ∧
      IntsAre vs ns' ∧ IntsAre ws ms' ∧ ns'.length + items2.size = ms'.length + items.size ∧ R (.ok (.ret (.bool (lexLt ns' ms')))) ⟨hp,g,d,tk,os⟩) _
    case turn =>
      rintro ⟨y,x⟩ rest b s' ⟨hb',rfl,vs,ws,ns',ms',hz,hvi,hwi,hlen,hR⟩
      cases hvi with
      | nil => rw [List.zip_nil_left] at hz; cases hz
      | cons a t hvi' =>
        cases hwi with
        | nil => rw [List.zip_nil_right] at hz; cases hz
        | cons c u hwi' =>
          rw [List.zip_cons_cons] at hz
          injection hz with hyx hrest
          injection hyx with hy hx
          subst hy hx
          rw [lexLt_cons] at hR
          simp only [List.length_cons] at hlen
          obtain ⟨e,he,hiff⟩ := eqAt_int A.in1 ⟨hp,g,d,tk,os⟩ a t c u
          refine wpAny_bind (he prog w _ _ ?_)
          cases e with
          | true =>
            rw [if_pos (hiff.mp rfl)] at hR
            wp_walk
            exact ⟨rfl,rfl,_,_,_,_,hrest,hvi',hwi',by lia,hR⟩
          | false =>
            rw [if_neg (fun q => absurd (hiff.mpr q) Bool.false_ne_true)] at hR
            have hri := rcLt_int A.in1 ⟨hp,g,d,tk,os⟩ a t c u prog w
            wp_walk using hri
            exact ⟨_,rfl,by simpa using hR⟩
    case fin =>
      rintro ⟨b1,b2⟩ s' ⟨hb',rfl,vs,ws,ns',ms',hz,hvi,hwi,hlen,hR⟩
      simp only at hb'
      subst hb'
      have hv : lexLt ns' ms' = decide (items.size < items2.size) := by
        cases hvi with
        | nil =>
          cases hwi with
          | nil =>
            simp only [List.length_nil] at hlen
            rw [lexLt_nil_nil]
            exact (decide_eq_false (by lia)).symm
          | cons c u hw =>
            simp only [List.length_nil,List.length_cons] at hlen
            rw [lexLt_nil_cons]
            exact (decide_eq_true (by lia)).symm
        | cons a t hv =>
          cases hwi with
          | nil =>
            simp only [List.length_nil,List.length_cons] at hlen
            rw [lexLt_cons_nil]
            exact (decide_eq_false (by lia)).symm
          | cons c u hw =>
            rw [List.zip_cons_cons] at hz
            cases hz
      rw [hv] at hR
      wp_walk
      exact ⟨_,rfl,by simpa [Builtin.Tuple.tupleCompareSizes] using hR⟩
    case h =>
      exact ⟨rfl,rfl,items.toList,items2.toList,ns,ms,rfl,hi,hj,by lia,h⟩
end
section
variable {prog : Program} {w : World} {A : Around} {E : Value → Shared → Prop} {s : Shared}
theorem lt_tupInts {l b : Addr} {items items2 : Array Value} {ns ms : List Int} {Q : Value → Shared → Prop} (hl : IsTup s.heap l items) (hb : IsTup s.heap b items2) (hi : IntsAre items.toList ns) (hj : IntsAre items2.toList ms)
    (hu : A.units < cLine) (h : Q (.bool (lexLt ns ms)) s) : wpAny (model prog w) A (compareOp .Lt (.ref l) (.ref b)) Q E s := by
  obtain ⟨⟨cls,dd,data,sl⟩,ho,hc,n,hd⟩ := id hl
  obtain ⟨⟨cls2,dd2,data2,sl2⟩,ho2,hc2,n2,hd2⟩ := id hb
  simp only at hc hd hc2 hd2
  subst hc hd hc2 hd2
  exact richCompare_meets_room (op:=.Lt) ⟨_,ho,rfl⟩ ⟨_,ho2,rfl⟩ PySem.F.slot_tuple_lt PySem.F.entry_tuple_lt (PySem.F.args_tuple_lt_2 _ _) (tuple_lt_ints l b items items2 n n2 dd dd2 sl sl2 ns ms hi hj)
    ⟨ho,ho2,show Value.bool (lexLt ns ms) ≠ Value.notImplemented ∧ Q (.bool (lexLt ns ms)) s from ⟨(fun x => nomatch x),h⟩⟩ hu
def sIx (n d : Nat) : Option Int → Nat
  | none => d
  | some v => if v < 0 then (v + (n : Int)).toNat else min v.toNat n
end
end HT
namespace L2
open PySem PySem.Spec PyProof.Rows
abbrev TO := St → Hp → (Option Int → Hp → Prop) → Prop
def PO (X : Cx) (e : Option Expr) (t : TO) : Prop :=
  ∀ (pins : List (Addr × Obj)) (s : Shared) (σ : St) (H : Hp) (Q : Option Int → Hp → Prop),Inv X pins σ H s → t σ H Q →
    wpAny (model X.prog X.w) X.A (evalPart e X.env) (fun u s' => ∃ o H',Inv X pins σ H' s' ∧ IsPart u o ∧ Q o H') X.xe s
def tNoPart : TO := fun _ H Q => Q none H
def tPart (t : TE) : TO := fun σ H Q => t σ H fun x H1 => ∃ i,x = .int i ∧ Q (some i) H1
theorem intsAre_of {ns : List Int} : ∀ {us : List Value},Vals (ns.map V.int) us → IntsAre us ns := by
  induction ns with
  | nil => intro us r; rw [List.map_nil] at r; cases r; exact .nil
  | cons n ns ih =>
    intro us r
    rw [List.map_cons] at r
    cases r with
    | cons r1 r2 =>
      obtain ⟨t,e⟩ := r1
      subst e
      exact .cons n t (ih r2)
section
variable {X : Cx} {e : Expr} {te : TE} {lo hi : Option Expr} {tl th : TO} {pos p2 : Pos}
theorem po_none : PO X none tNoPart := by
  intro pins s σ H Q I h
  rw [evalPart_none]
  exact wpAny_pure ⟨none,H,I,.none,h⟩
theorem po_some (h : PE X e te) : PO X (some e) (tPart te) := by
  intro pins s σ H Q I hw
  rw [evalPart_some]
  refine thn (h pins s σ H _ I hw) fun u s1 ⟨x,H1,I1,r1,q1⟩ => ?_
  obtain ⟨i,rfl,q⟩ := q1
  obtain ⟨t,rfl⟩ := r1
  exact ⟨some i,H1,I1,.int i t,q⟩
def SlR (X : Cx) (r : V → Option Int → Option Int → Hp → VK → Prop) : Prop :=
  ∀ (pins : List (Addr × Obj)) (s : Shared) (σ : St) (H : Hp) (x : V) (v vl vu : Value) (lo hi : Option Int) (sl : Addr) (Q : VK),Inv X pins σ H s → RelV x v → s.heap.IsSliceOf sl vl vu .none → IsPart vl lo → IsPart vu hi → r x lo hi H Q →
    ∃ T id,typeLookup (.type T) "__getitem__" = pure (some (.builtin id)) ∧ s.TypeIs v T ∧ wpAny (model X.prog X.w) X.A (getItem v (.ref sl)) (EP X pins σ Q) X.xe s
def tSl (r : V → Option Int → Option Int → Hp → VK → Prop) (te : TE) (tl th : TO) : TE := fun σ H Q => te σ H fun x H1 => tl σ H1 fun l H2 => th σ H2 fun u H3 => r x l u H3 Q
theorem pe_slice {r : V → Option Int → Option Int → Hp → VK → Prop} (hr : SlR X r) (he : PE X e te) (hl : PO X lo tl) (hu : PO X hi th) : PE X (.Subscript e (.Slice lo hi none p2) pos) (tSl r te tl th) := by
  intro pins s σ H Q I h
  refine Subscript_ (thn (he pins s σ H _ I h) fun v s1 ⟨x,H1,I1,r1,q1⟩ => ?_)
  refine wpAny_Slice (thn (hl pins s1 σ H1 _ I1 q1) fun vl s2 ⟨l,H2,I2,pl,q2⟩ => thn (hu pins s2 σ H2 _ I2 q2) fun vu s3 ⟨u,H3,I3,pu,q3⟩ => ?_)
  rw [evalPart_none]
  refine wpAny_pure ?_
  have I4 : Inv X pins σ H3 { s3 with heap := s3.heap.push { cls := .type "slice",data := .fields #[vl,vu,.none] } } := I3.kept (t':=s3.toks) fun b ob q => Heap.get?_push_of_some _ q
  obtain ⟨T,id,hT,ht,hg⟩ := hr pins { s3 with heap := s3.heap.push { cls := .type "slice",data := .fields #[vl,vu,.none] } } σ H3 x v vl vu l u s3.heap.objs.size Q I4 r1 (Heap.IsSliceOf.new ..) pl pu q3
  show wpAny (model X.prog X.w) X.A (subscriptTail e (.Slice lo hi none p2) v (.ref s3.heap.objs.size)) (EP X pins σ Q) X.xe { s3 with heap := s3.heap.push { cls := .type "slice",data := .fields #[vl,vu,.none] } }
  exact tail_any (ops:=[.ref s3.heap.objs.size,v]) ht hT hg (by with_unfolding_all rfl)
def cutV (xs : List V) (lo hi : Option Int) : List V := (xs.drop (HT.sIx xs.length 0 lo)).take (HT.sIx xs.length xs.length hi - HT.sIx xs.length 0 lo)
theorem cutV_length (xs : List V) (lo hi : Option Int) : (cutV xs lo hi).length ≤ xs.length := by
  unfold cutV
  rw [List.length_take,List.length_drop]
  omega
def rLtT (K : PySem.W.Frag) : R2 := fun x y H Q => ∃ a b ns ms,x = .ref a ∧ y = .ref b ∧ SqT K H a (ns.map V.int) ∧ SqT K H b (ms.map V.int) ∧ Q (.bl (HT.lexLt ns ms)) H
theorem op_ltT (hu : X.A.units < cLine) : OpR X (compareOp .Lt) (rLtT X.K) := by
  intro pins s σ H x y v u Q I rx ry h
  obtain ⟨a,b,ns,ms,rfl,rfl,ha,hb,q⟩ := h
  cases rx
  cases ry
  obtain ⟨its,r1,p1,_⟩ := I.tuple ha
  obtain ⟨its2,r2,p2,_⟩ := I.tuple hb
  have i1 : IntsAre its.toArray.toList ns := intsAre_of r1
  have i2 : IntsAre its2.toArray.toList ms := intsAre_of r2
  exact HT.lt_tupInts p1 p2 i1 i2 hu ⟨.bl (HT.lexLt ns ms),H,I,rfl,q⟩
end
end L2
namespace L2
open PySem PySem.Spec PyProof.Rows
def ixN (n : Nat) (i : Int) : Option Nat := if 0 ≤ i then (if i < n then some i.toNat else none) else if -(n : Int) ≤ i then some (i + n).toNat else none
def atI {α : Type} (xs : List α) (i : Int) : Option α := (ixN xs.length i).bind fun j => xs[j]?
theorem ixN_seq {n : Nat} {i : Int} {j : Nat} (h : ixN n i = some j) : seqIndex? i n = some j ∧ j < n ∧ -(n : Int) ≤ i ∧ i < n := by
  unfold ixN at h
  by_cases h0 : 0 ≤ i
  · rw [if_pos h0] at h
    by_cases h1 : i < n
    · rw [if_pos h1] at h
      have e : i.toNat = j := Option.some.inj h
      exact ⟨by rw [seqIndex_of h0 h1,e],by lia,by lia,h1⟩
    · rw [if_neg h1] at h; cases h
  · rw [if_neg h0] at h
    by_cases h1 : -(n : Int) ≤ i
    · rw [if_pos h1] at h
      have e : (i + n).toNat = j := Option.some.inj h
      exact ⟨by rw [seqIndex_neg (by lia) h1,e],by lia,h1,by lia⟩
    · rw [if_neg h1] at h; cases h
theorem atI_get {α : Type} {xs : List α} {i : Int} {v : α} (h : atI xs i = some v) : ∃ j,seqIndex? i xs.length = some j ∧ xs[j]? = some v ∧ j < xs.length ∧ -(xs.length : Int) ≤ i ∧ i < xs.length := by
  unfold atI at h
  cases e : ixN xs.length i with
  | none => rw [e] at h; cases h
  | some j =>
    rw [e] at h
    obtain ⟨h1,h2,h3,h4⟩ := ixN_seq e
    exact ⟨j,h1,h,h2,h3,h4⟩
def PlainIx (b : Expr) : Prop := ∀ o i,subscripted b false o i = operate [o,i] (getItem o i)
def IxR (X : Cx) (r : R2) : Prop :=
  ∀ (value slice : Expr) (pins : List (Addr × Obj)) (s : Shared) (σ : St) (H : Hp) (x y : V) (v u : Value) (Q : VK),Inv X pins σ H s → RelV x v → RelV y u → r x y H Q →
    subscripted slice false v u = operate [v,u] (getItem v u) → wpAny (model X.prog X.w) X.A (subscriptTail value slice v u) (EP X pins σ Q) X.xe s
def MtR (X : Cx) (id : String) (r : V → List V → Hp → VK → Prop) : Prop :=
  ∀ (pins : List (Addr × Obj)) (s : Shared) (σ : St) (H : Hp) (x : V) (xs : List V) (v : Value) (us : List Value) (Q : VK),Inv X pins σ H s → RelV x v → Vals xs us → r x xs H Q →
    wpAny (model X.prog X.w) X.A (call (.builtin id) (v :: us)) (EP X pins σ Q) X.xe s
section
variable {X : Cx} {a b : Expr} {ta tb : TE} {pos : Pos}
theorem IxR.or {r r' : R2} (h : IxR X r) (h' : IxR X r') : IxR X (fun x y H Q => r x y H Q ∨ r' x y H Q) := by
  intro value slice pins s σ H x y v u Q I rx ry q hs
  rcases q with q | q
  · exact h value slice pins s σ H x y v u Q I rx ry q hs
  · exact h' value slice pins s σ H x y v u Q I rx ry q hs
theorem pe_ix {r : R2} (hr : IxR X r) (ha : PE X a ta) (hb : PE X b tb) (hs : PlainIx b) : PE X (.Subscript a b pos) (tOp r ta tb) := by
  intro pins s σ H Q I h
  exact Subscript_ (binT ha hb I h fun v u s2 x y H2 I2 rx ry q => hr a b pins s2 σ H2 x y v u Q I2 rx ry q (hs _ _))
def rIxL (K : PySem.W.Frag) : R2 := fun x y H Q => ∃ p xs i v,x = .ref p ∧ y = .int i ∧ SqL K H p xs ∧ atI xs i = some v ∧ Q v H
def rIxT (K : PySem.W.Frag) : R2 := fun x y H Q => ∃ p xs i v,x = .ref p ∧ y = .int i ∧ SqT K H p xs ∧ atI xs i = some v ∧ Q v H
def rIxS : R2 := fun x y H Q => ∃ z i c,x = .str z ∧ y = .int i ∧ z.length ≤ sizeLine ∧ atI z.cps.toList i = some c ∧ Q (.str ⟨#[c]⟩) H
theorem ix_list : IxR X (rIxL X.K) := by
  intro value slice pins s σ H x y v u Q I rx ry h hs
  obtain ⟨p,xs,i,z,rfl,rfl,hq,he,q⟩ := h
  cases rx
  obtain ⟨t,rfl⟩ := ry
  obtain ⟨its,r,pl,hz⟩ := I.list hq
  obtain ⟨j,h1,h2,h3,h4,h5⟩ := atI_get he
  obtain ⟨w,ew,rw'⟩ := r.get h2
  have hl := r.length
  have hn := line63
  have fin : EP X pins σ Q w s := ⟨z,H,I,rw',q⟩
  by_cases h0 : 0 ≤ i
  · have hj : i.toNat = j := by
      rw [seqIndex_of h0 h5] at h1
      exact Option.some.inj h1
    exact item_listR pl.isList h0 (by lia) (by rw [hj]; simpa using ew) fin hs
  · have hj : (i + (its.toArray.size : Int)).toNat = j := by
      rw [seqIndex_neg (by lia) h4] at h1
      rw [List.size_toArray,← hl]
      exact Option.some.inj h1
    exact subscriptTail_builtinR (x:=w) pl.isList.typeIs slot_list_getitem.lookup
      (wpAny_getItem_list_neg (Q:=fun r s' => r = w ∧ EP X pins σ Q r s') pl.isList (by lia) (by rw [List.size_toArray] <;> lia) (by lia) (by rw [hj]; simpa using ew) ⟨rfl,fin⟩) hs
theorem ix_tup : IxR X (rIxT X.K) := by
  intro value slice pins s σ H x y v u Q I rx ry h hs
  obtain ⟨p,xs,i,z,rfl,rfl,hq,he,q⟩ := h
  cases rx
  obtain ⟨t,rfl⟩ := ry
  obtain ⟨its,r,pl,hz⟩ := I.tuple hq
  obtain ⟨j,h1,h2,h3,h4,h5⟩ := atI_get he
  obtain ⟨w,ew,rw'⟩ := r.get h2
  have hl := r.length
  have hn := line63
  have fin : EP X pins σ Q w s := ⟨z,H,I,rw',q⟩
  exact subscriptTail_builtinR (x:=w) pl.typeIs slot_tuple_getitem.lookup
    (getItem_tuple (j:=j) (Q:=fun r s' => r = w ∧ EP X pins σ Q r s') pl (by lia) (by lia) (by rw [List.size_toArray,← hl]; exact h1) (by simpa using ew) ⟨rfl,fin⟩) hs
theorem ix_str : IxR X rIxS := by
  intro value slice pins s σ H x y v u Q I rx ry h hs
  obtain ⟨z,i,c,rfl,rfl,hz,he,q⟩ := h
  obtain ⟨t,rfl⟩ := rx
  obtain ⟨t',rfl⟩ := ry
  obtain ⟨j,h1,h2,h3,h4,h5⟩ := atI_get he
  have hl : z.cps.toList.length = z.length := by simp [Str.length]
  rw [hl] at h1 h4 h5
  have hn := line63
  exact tail_any (typeIs_str s z t) slot_str_getitem.lookup (getItem_str (c:=c) (by
    have e1 : decide (i < -(2 ^ 63 : Int)) = false := decide_eq_false (by lia)
    have e2 : decide (i ≥ 2 ^ 63) = false := decide_eq_false (by lia)
    rw [e1,e2,Bool.or_false]) (by rw [h1]; simpa using h2) ⟨.str ⟨#[c]⟩,H,I.tok _,⟨_,rfl⟩,q⟩) hs
def rIx (K : PySem.W.Frag) : R2 := fun x y H Q => rIxL K x y H Q ∨ rIxT K x y H Q ∨ rIxS x y H Q
theorem ix_seq : IxR X (rIx X.K) := ix_list.or (ix_tup.or ix_str)
theorem mapSeq_set (its : List Value) (n j : Nat) (u : Value) : Obj.mapSeq (·.setIfInBounds j u) { cls := .type "list",data := .seq its.toArray n } = { cls := .type "list",data := .seq (its.set j u).toArray n } := by
  simp [Obj.mapSeq]
theorem Inv.lst {pins : List (Addr × Obj)} {σ : St} {H : Hp} {s : Shared} {p : Addr} {xs : List V} (I : Inv X pins σ H s) (h : H p = some (.lst xs)) :
    ∃ (its : List Value) (n : Nat),Vals xs its ∧ s.heap.get? p = some { cls := .type "list",data := .seq its.toArray n } ∧ xs.length ≤ sizeLine := by
  obtain ⟨z,its,n,r,e⟩ := I.hok p _ h
  exact ⟨its,n,r,e,z⟩
theorem Inv.lstUpd {pins : List (Addr × Obj)} {σ : St} {H : Hp} {s : Shared} {p : Addr} {xs ys : List V} {its its' : List Value} {n n' : Nat} {f : Obj → Obj} (I : Inv X pins σ H s) (h : H p = some (.lst xs))
    (ho : s.heap.get? p = some { cls := .type "list",data := .seq its.toArray n }) (hf : f { cls := .type "list",data := .seq its.toArray n } = { cls := .type "list",data := .seq its'.toArray n' }) (r : Vals ys its') (hz : ys.length ≤ sizeLine) (t : Nat) :
    Inv X pins σ (upd H p (.lst ys)) { s with heap := s.heap.update p f,toks := t } := by
  have e : (s.heap.update p f).get? p = some { cls := .type "list",data := .seq its'.toArray n' } := by
    rw [Heap.get?_update_self f ho (by rw [hf] <;> rfl),hf]
  refine I.write (x:=p) (e:=p) (by rw [h]; trivial) (.inl rfl) (fun b u hb q => (Heap.get?_update_other _ _ (Ne.symm hb)).trans q) ⟨_,e⟩ ?_
  exact ⟨hz,its',n',r,e⟩
def rSetL : V → V → V → Hp → (Hp → Prop) → Prop := fun o i v H Q => ∃ p xs k j,o = .ref p ∧ i = .int k ∧ H p = some (.lst xs) ∧ ixN xs.length k = some j ∧ Q (upd H p (.lst (xs.set j v)))
theorem set_list : PSet X rSetL := by
  intro pins s σ H o i v ov iv u Q I ro ri rv h
  obtain ⟨p,xs,k,j,rfl,rfl,hp,hj,q⟩ := h
  cases ro
  obtain ⟨t,rfl⟩ := ri
  obtain ⟨its,n,r,ho,hz⟩ := I.lst hp
  obtain ⟨h1,h2,h3,h4⟩ := ixN_seq hj
  have hl := r.length
  have hn := line63
  have I' : Inv X pins σ (upd H p (.lst (xs.set j v))) { s with heap := s.heap.update p (Obj.mapSeq (·.setIfInBounds j u)) } :=
    I.lstUpd hp ho (mapSeq_set its n j u) (r.set rv j) (by rw [List.length_set]; exact hz) s.toks
  by_cases h0 : 0 ≤ k
  · have hk : k.toNat = j := by
      rw [seqIndex_of h0 h4] at h1
      exact Option.some.inj h1
    exact PySem.W.ki_setAt ho h0 (by lia) (by rw [List.size_toArray,← hl]; exact h4) (by rw [hk]; exact ⟨_,I',q⟩)
  · have hk : (k + (its.toArray.size : Int)).toNat = j := by
      rw [seqIndex_neg (by lia) h3] at h1
      rw [List.size_toArray,← hl]
      exact Option.some.inj h1
    exact PySem.W.ki_setBack ho (by lia) (by rw [List.size_toArray,← hl]; exact h3) (by lia) (by rw [hk]; exact ⟨_,I',q⟩)
theorem slice_bounds (lo hi : Option Int) (n : Nat) : (sliceBounds lo hi none n).1 = ((HT.sIx n 0 lo : Nat) : Int) ∧ (sliceBounds lo hi none n).2.1 = ((HT.sIx n n hi : Nat) : Int) ∧ (sliceBounds lo hi none n).2.2 = 1 := by
  refine ⟨?_,?_,rfl⟩
  · cases lo with
    | none => simp [sliceBounds,HT.sIx]
    | some i =>
      simp only [sliceBounds,HT.sIx,Option.getD_none,show (1 : Int) > 0 by decide,if_true]
      by_cases h : i < 0
      · simp only [h,if_true] <;> lia
      · simp only [h,if_false] <;> lia
  · cases hi with
    | none => simp [sliceBounds,HT.sIx]
    | some i =>
      simp only [sliceBounds,HT.sIx,Option.getD_none,show (1 : Int) > 0 by decide,if_true]
      by_cases h : i < 0
      · simp only [h,if_true] <;> lia
      · simp only [h,if_false] <;> lia
theorem slicePick_cut (its : List Value) (lo hi : Option Int) : slicePick its.toArray lo hi none = ((its.drop (HT.sIx its.length 0 lo)).take (HT.sIx its.length its.length hi - HT.sIx its.length 0 lo)).toArray := by
  obtain ⟨h1,h2,h3⟩ := slice_bounds lo hi its.toArray.size
  unfold slicePick
  rw [h1,h2,h3]
  simp only [sliceRange_one,pick_run,List.size_toArray] <;> rfl
def rSlL (K : PySem.W.Frag) : V → Option Int → Option Int → Hp → VK → Prop := fun x lo hi H Q => ∃ a xs,x = .ref a ∧ SqL K H a xs ∧ ∀ p,H p = none → Q (.ref p) (upd H p (.lst (cutV xs lo hi)))
theorem sl_list : SlR X (rSlL X.K) := by
  intro pins s σ H x v vl vu lo hi sl Q I rx hs pl pu h
  obtain ⟨a,xs,rfl,hx,q⟩ := h
  cases rx
  obtain ⟨its,r,ht,hz⟩ := I.list hx
  have hlen := r.length
  refine ⟨"list",_,slot_list_getitem.lookup,ht.isList.typeIs,?_⟩
  refine wpAny_getItem_list_slice ht.isList hs pl pu .none (by simp) ?_ (by rw [List.size_toArray] <;> lia)
  rw [slicePick_cut,← hlen]
  refine ⟨.ref s.heap.objs.size,_,I.laid (t':=s.toks) (o:=.lst (cutV xs lo hi)) (fun b ob q => Heap.get?_push_of_some _ q) (Nat.le_refl _) ?_,rfl,q _ (I.hok.fresh (Nat.le_refl _))⟩
  exact ⟨Nat.le_trans (cutV_length xs lo hi) hz,_,0,(r.drop (HT.sIx xs.length 0 lo)).take (HT.sIx xs.length xs.length hi - HT.sIx xs.length 0 lo),Heap.get?_push_size _ rfl⟩
def flatV : V → Bool
  | .non => true
  | .bl _ => true
  | .int _ => true
  | .str _ => true
  | _ => false
def eqV : V → V → Bool
  | .non,.non => true
  | .bl a,.bl b => a == b
  | .bl a,.int b => (if a then 1 else 0) == b
  | .int a,.bl b => a == (if b then 1 else 0)
  | .int a,.int b => a == b
  | .str a,.str b => a == b
  | _,_ => false
theorem eqAt_V {A : Around} {s : Shared} {y x : V} {u v : Value} (ry : RelV y u) (rx : RelV x v) (fy : flatV y = true) (fx : flatV x = true) : SeqAt.EqAt A s u v (eqV y x) := by
  cases y with
  | non =>
    cases ry
    cases x with
    | non => cases rx; exact SeqAt.EqAt.same _
    | bl b => cases rx; exact SeqAt.EqAt.none_bool b
    | int b => obtain ⟨t,rfl⟩ := rx; exact SeqAt.EqAt.none_int b t
    | str b => obtain ⟨t,rfl⟩ := rx; exact SeqAt.EqAt.none_str b t
    | _ => exact absurd (show false = true from fx) Bool.false_ne_true
  | bl a =>
    cases ry
    cases x with
    | non => cases rx; exact SeqAt.EqAt.bool_none a
    | bl b => cases rx; exact SeqAt.EqAt.bool_bool a b
    | int b => obtain ⟨t,rfl⟩ := rx; exact SeqAt.EqAt.bool_int a b t
    | str b => obtain ⟨t,rfl⟩ := rx; exact SeqAt.EqAt.bool_str a b t
    | _ => exact absurd (show false = true from fx) Bool.false_ne_true
  | int a =>
    obtain ⟨t',rfl⟩ := ry
    cases x with
    | non => cases rx; exact SeqAt.EqAt.int_none a t'
    | bl b => cases rx; exact SeqAt.EqAt.int_bool a t' b
    | int b => obtain ⟨t,rfl⟩ := rx; exact SeqAt.EqAt.int_int a t' b t
    | str b => obtain ⟨t,rfl⟩ := rx; exact SeqAt.EqAt.int_str a t' b t
    | _ => exact absurd (show false = true from fx) Bool.false_ne_true
  | str a =>
    obtain ⟨t',rfl⟩ := ry
    cases x with
    | non => cases rx; exact SeqAt.EqAt.str_none a t'
    | bl b => cases rx; exact SeqAt.EqAt.str_bool a t' b
    | int b => obtain ⟨t,rfl⟩ := rx; exact SeqAt.EqAt.str_int a t' b t
    | str b => obtain ⟨t,rfl⟩ := rx; exact SeqAt.EqAt.str_str a t' b t
    | _ => exact absurd (show false = true from fx) Bool.false_ne_true
  | _ => exact absurd (show false = true from fy) Bool.false_ne_true
def eqU (x : V) (u : Value) : Bool := match u with
  | .none => eqV .non x
  | .bool b => eqV (.bl b) x
  | .int i _ => eqV (.int i) x
  | .str z _ => eqV (.str z) x
  | _ => false
theorem eqU_of {x y : V} {u : Value} (r : RelV y u) (f : flatV y = true) : eqU x u = eqV y x := by
  cases y with
  | non => cases r; rfl
  | bl b => cases r; rfl
  | int i => obtain ⟨t,rfl⟩ := r; rfl
  | str z => obtain ⟨t,rfl⟩ := r; rfl
  | _ => exact absurd (show false = true from f) Bool.false_ne_true
theorem any_eqU {x : V} : ∀ {xs : List V} {us : List Value},Vals xs us → xs.all flatV = true → us.any (eqU x) = xs.any fun y => eqV y x
  | _,_,.nil,_ => rfl
  | y :: xs,u :: us,.cons r t,f => by
    rw [List.all_cons,Bool.and_eq_true] at f
    rw [List.any_cons,List.any_cons,eqU_of r f.1,any_eqU t f.2]
theorem mem_eqAt {A : Around} {s : Shared} {x : V} {v : Value} (rx : RelV x v) (fx : flatV x = true) : ∀ {xs : List V} {us : List Value},Vals xs us → xs.all flatV = true → ∀ u ∈ us,SeqAt.EqAt A s u v (eqU x u)
  | _,_,.nil,_ => fun u hu => by cases hu
  | y :: xs,u :: us,.cons r t,f => fun u' hu => by
    rw [List.all_cons,Bool.and_eq_true] at f
    rcases List.mem_cons.mp hu with rfl | hu
    · rw [eqU_of r f.1]; exact eqAt_V r rx f.1 fx
    · exact mem_eqAt rx fx t f.2 u' hu
def inV (x : V) (xs : List V) : Bool := xs.any fun y => eqV y x
def rIn (K : PySem.W.Frag) (neg : Bool) : R2 := fun x y H Q => ∃ p xs,y = .ref p ∧ (SqL K H p xs ∨ SqT K H p xs) ∧ flatV x = true ∧ xs.all flatV = true ∧ Q (.bl (if neg then !inV x xs else inV x xs)) H
theorem op_in_seq : OpR X (compareOp .In) (rIn X.K false) := by
  intro pins s σ H x y v u Q I rx ry h
  obtain ⟨p,xs,rfl,hq,fx,fs,q⟩ := h
  cases ry
  rcases hq with hq | hq
  · obtain ⟨its,r,pl,hz⟩ := I.list hq
    refine SeqAt.in_listAt (eqU x) pl.isList (fun w hw => mem_eqAt rx fx r fs w (by simpa using hw)) ⟨.bl _,H,I,rfl,?_⟩
    rw [show its.toArray.any (eqU x) = its.any (eqU x) by simp,any_eqU r fs]
    exact q
  · obtain ⟨its,r,pl,hz⟩ := I.tuple hq
    refine SeqAt.in_tupleAt (eqU x) pl (fun w hw => mem_eqAt rx fx r fs w (by simpa using hw)) ⟨.bl _,H,I,rfl,?_⟩
    rw [show its.toArray.any (eqU x) = its.any (eqU x) by simp,any_eqU r fs]
    exact q
theorem op_notIn_seq : OpR X (compareOp .NotIn) (rIn X.K true) := by
  intro pins s σ H x y v u Q I rx ry h
  obtain ⟨p,xs,rfl,hq,fx,fs,q⟩ := h
  cases ry
  rcases hq with hq | hq
  · obtain ⟨its,r,pl,hz⟩ := I.list hq
    refine SeqAt.notIn_listAt (eqU x) pl.isList (fun w hw => mem_eqAt rx fx r fs w (by simpa using hw)) ⟨.bl _,H,I,rfl,?_⟩
    rw [show its.toArray.any (eqU x) = its.any (eqU x) by simp,any_eqU r fs]
    exact q
  · obtain ⟨its,r,pl,hz⟩ := I.tuple hq
    refine SeqAt.notIn_tupleAt (eqU x) pl (fun w hw => mem_eqAt rx fx r fs w (by simpa using hw)) ⟨.bl _,H,I,rfl,?_⟩
    rw [show its.toArray.any (eqU x) = its.any (eqU x) by simp,any_eqU r fs]
    exact q
theorem call_len_seq : CallR X (.builtin "len") (fun xs H Q => ∃ p ys,xs = [.ref p] ∧ (SqL X.K H p ys ∨ SqT X.K H p ys) ∧ Q (.int ys.length) H) := by
  intro pins s σ H xs us Q I r h
  obtain ⟨p,ys,rfl,hq,q⟩ := h
  obtain ⟨u,rfl,rx⟩ := vals1 r
  cases rx
  have hn := line63
  rcases hq with hq | hq
  · obtain ⟨its,r',pl,hz⟩ := I.list hq
    have hlen := r'.length
    exact Calls.call_len_list pl.isList (by simp only [List.size_toArray] <;> lia) ⟨.int ys.length,H,I.tok _,⟨s.toks + 1,by rw [List.size_toArray,hlen]⟩,q⟩
  · obtain ⟨its,r',pl,hz⟩ := I.tuple hq
    have hlen := r'.length
    exact len_tuple pl (by simp only [List.size_toArray] <;> lia) ⟨.int ys.length,H,I.tok _,⟨s.toks + 1,by rw [List.size_toArray,hlen]⟩,q⟩
theorem call_list_of : CallR X (.type "list") (fun xs H Q => ∃ p ys,xs = [.ref p] ∧ (SqL X.K H p ys ∨ SqT X.K H p ys) ∧ ∀ l,H l = none → Q (.ref l) (upd H l (.lst ys))) := by
  intro pins s σ H xs us Q I r h
  obtain ⟨p,ys,rfl,hq,q⟩ := h
  obtain ⟨u,rfl,rx⟩ := vals1 r
  cases rx
  have fin : ∀ (its : List Value),Vals ys its → ys.length ≤ sizeLine → ∀ (h' : Heap) (c' : Nat),(∀ b o',s.heap.get? b = some o' → h'.get? b = some o') →
      h'.get? s.heap.objs.size = some { cls := .type "list",dict := none,data := .seq its.toArray c',slots := #[] } → EP X pins σ Q (.ref s.heap.objs.size) { s with heap := h' } := fun its r' hz h' c' kp e =>
    ⟨.ref s.heap.objs.size,_,I.laid (t':=s.toks) kp (Nat.le_refl _) (show ObjOk X.prog X.w _ h' _ (.lst ys) from ⟨hz,its,c',r',e⟩),rfl,q _ (I.hok.fresh (Nat.le_refl _))⟩
  rcases hq with hq | hq
  · obtain ⟨its,r',pl,hz⟩ := I.list hq
    have hlen := r'.length
    obtain ⟨o,ho,hc,n,hd⟩ := pl.isList
    exact call_list_seq p (.inl rfl) ho hc hd (fun h' c' kp e => fin its r' hz h' c' kp e) (by simp only [List.size_toArray] <;> lia)
  · obtain ⟨its,r',pl,hz⟩ := I.tuple hq
    have hlen := r'.length
    obtain ⟨o,ho,hc,n,hd⟩ := pl
    exact call_list_seq p (.inr rfl) ho hc hd (fun h' c' kp e => fin its r' hz h' c' kp e) (by simp only [List.size_toArray] <;> lia)
theorem call_tuple_of : CallR X (.type "tuple") (fun xs H Q => ∃ p ys,xs = [.ref p] ∧ ((SqL X.K H p ys ∧ ∀ l,H l = none → Q (.ref l) (upd H l (.tup ys))) ∨ (SqT X.K H p ys ∧ Q (.ref p) H))) := by
  intro pins s σ H xs us Q I r h
  obtain ⟨p,ys,rfl,h⟩ := h
  obtain ⟨u,rfl,rx⟩ := vals1 r
  cases rx
  rcases h with ⟨hq,q⟩ | ⟨hq,q⟩
  · obtain ⟨its,r',pl,hz⟩ := I.list hq
    have hlen := r'.length
    refine call_tuple_list pl.isList (fun h' kp => ?_) (by simp only [List.size_toArray] <;> lia)
    have I1 : Inv X pins σ H { s with heap := h' } := I.kept (t':=s.toks) kp
    have I2 : Inv X pins σ (upd H h'.objs.size (.tup ys)) { s with heap := h'.push { cls := .type "tuple",data := .seq its.toArray } } :=
      I1.laid (t':=s.toks) (fun b o e => Heap.get?_push_of_some _ e) (Nat.le_refl _) (show ObjOk X.prog X.w _ _ _ (.tup ys) from ⟨hz,its,r',IsTup.new _ _⟩)
    exact ⟨.ref h'.objs.size,_,I2,rfl,q _ (I1.hok.fresh (Nat.le_refl _))⟩
  · obtain ⟨its,r',pl,hz⟩ := I.tuple hq
    exact call_tuple_same pl ⟨.ref p,H,I,rfl,q⟩
def tyV (K : PySem.W.Frag) (T : String) (x : V) (H : Hp) : Prop := match x with
  | .str _ => T = "str"
  | .int _ => T = "int"
  | .ref p => (T = "list" ∧ ∃ xs,SqL K H p xs) ∨ (T = "tuple" ∧ ∃ o,K.lookup p = some o ∧ o.cls = .type "tuple" ∧ o.dict = none) ∨
      (T = "dict" ∧ ((∃ kvs,H p = some (.dK kvs)) ∨ ∃ kvs,H p = some (.dT kvs))) ∨ (T = "set" ∧ ∃ S n,H p = some (.set S n))
  | _ => False
theorem tyV_is {pins : List (Addr × Obj)} {σ : St} {H : Hp} {s : Shared} {T : String} {x : V} {v : Value} (I : Inv X pins σ H s) (r : RelV x v) (ty : tyV X.K T x H) :
    s.TypeIs v T ∧ ∀ a,v = .ref a → ∃ ob,s.heap.get? a = some ob ∧ ob.dict = none := by
  cases x with
  | str z =>
    obtain ⟨t,rfl⟩ := r
    cases (show T = "str" from ty)
    exact ⟨typeIs_str s z t,fun _ e => nomatch e⟩
  | int i =>
    obtain ⟨t,rfl⟩ := r
    cases (show T = "int" from ty)
    exact ⟨typeIs_int s i t,fun _ e => nomatch e⟩
  | ref p =>
    cases r
    rcases ty with ⟨rfl,xs,hq⟩ | ⟨rfl,o,hk,hc,hd⟩ | ⟨rfl,hk⟩ | ⟨rfl,S,n,hk⟩
    · obtain ⟨its,_,pl,_⟩ := I.list hq
      refine ⟨pl.isList.typeIs,fun a e => ?_⟩
      cases e
      obtain ⟨o,n,e,c,hd,_⟩ := pl
      exact ⟨o,e,hd⟩
    · refine ⟨⟨o,I.kIn p o hk,hc⟩,fun a e => ?_⟩
      cases e
      exact ⟨o,I.kIn _ o hk,hd⟩
    · have z : ∃ o,s.heap.get? p = some o ∧ o.ExactDict := by
        rcases hk with ⟨kvs,hk⟩ | ⟨kvs,hk⟩
        · obtain ⟨_,_,_,_,o,_,_,e,ex,_⟩ := I.hok p _ hk
          exact ⟨o,e,ex⟩
        · obtain ⟨_,_,_,_,o,_,_,e,ex,_⟩ := I.hok p _ hk
          exact ⟨o,e,ex⟩
      obtain ⟨o,e,ex⟩ := z
      refine ⟨⟨o,e,ex.1⟩,fun a e2 => ?_⟩
      cases e2
      exact ⟨o,e,ex.2.1⟩
    · obtain ⟨o,_,_,_,e,ex,_⟩ := I.hok p _ hk
      refine ⟨⟨o,e,ex.1⟩,fun a e2 => ?_⟩
      cases e2
      exact ⟨o,e,ex.2.1⟩
  | _ => exact False.elim ty
def tBM (K : PySem.W.Frag) (T : String) (r : V → List V → Hp → VK → Prop) (to : TE) (t : TA) : TE := fun σ H Q => to σ H fun x H1 => tyV K T x H1 ∧ t σ H1 fun xs H2 => r x xs H2 Q
variable {o e : Expr} {es : List Expr} {to : TE} {t : TA} {name : Str} {apos cpos : Pos} {T id : String} {r : V → List V → Hp → VK → Prop}
theorem pe_bm (pa : PlainAttrs T) (slot : Slot T name id) (hty : typeOf (.builtin id) = pure (.type "method_descriptor")) (hm : MtR X id r) (ho : PE X o to) (ha : PA X (e :: es) t)
    (hbase : attributeBase o name X.env (eval o X.env) = eval o X.env := by rfl)
    (hfew : ((backTo cpos (starEach (e :: es) X.env)).all (fun x => !x.1) && (backToKw cpos (keywordEach [] X.env)).all (fun x => x.1.isSome)
      && decide ((e :: es).length + ([] : List Keyword).length + (if ([] : List Keyword).isEmpty then 0 else 1) < 30)) = true := by rfl)
    (hline : (apos.endLine == cpos.line) = true := by rfl) (hs : starEach (e :: es) X.env = (false,eval e X.env) :: starEach es X.env := by rfl) (hplain : (backTo cpos (starEach es X.env)).any (·.1) = false := by rfl) :
    PE X (.Call (.Attribute o name apos) (e :: es) [] cpos) (tBM X.K T r to t) := by
  intro pins s σ H Q I h
  refine wpAny_Call_method_late hbase hfew hline rfl (thn (ho pins s σ H _ I h) fun v s1 ⟨x,H1,I1,r1,ty,q1⟩ => ?_)
  obtain ⟨h1,h2⟩ := tyV_is I1 r1 ty
  refine ⟨T,id,pa,slot,hty,h1,h2,?_⟩
  have hA := ha cpos pins s1 σ H1 _ I1 q1
  rw [hs] at hA ⊢
  refine Calls.callWith_builtin (by show (false || (backTo cpos (starEach es X.env)).any (·.1)) = false; rw [hplain] <;> rfl) (Calls.evalArgs_plain ?_)
  exact thn hA fun us s2 ⟨vs,H2,I2,r2,q2⟩ => hm pins s2 σ H2 x vs v us Q I2 r1 r2 q2
end
end L2
namespace L2
open PySem PySem.Spec PyProof.Rows
def MtM (X : Cx) (id : String) (r : V → List V → Hp → VK → Prop) : Prop :=
  ∀ (pins : List (Addr × Obj)) (s : Shared) (σ : St) (H : Hp) (x : V) (xs : List V) (v : Value) (us : List Value) (Q : VK),Inv X pins σ H s → RelV x v → Vals xs us → r x xs H Q →
    wpAny (model X.prog X.w) X.A (call (.builtin id) (v :: us)) (EP X pins σ Q) X.xe s
theorem Vals.one : ∀ {x : V} {us : List Value},Vals [x] us → ∃ u,us = [u] ∧ RelV x u
  | _,_,.cons r .nil => ⟨_,rfl,r⟩
theorem Vals.two : ∀ {x y : V} {us : List Value},Vals [x,y] us → ∃ u v,us = [u,v] ∧ RelV x u ∧ RelV y v
  | _,_,_,.cons r (.cons q .nil) => ⟨_,_,rfl,r,q⟩
theorem Vals.rep {xs : List V} {us : List Value} (h : Vals xs us) : ∀ k : Nat,Vals (List.replicate k xs).flatten (List.replicate k us).flatten
  | 0 => .nil
  | k + 1 => by
    rw [List.replicate_succ,List.replicate_succ,List.flatten_cons,List.flatten_cons]
    exact Vals.append h (Vals.rep h k)
theorem foldl_rep (its : List Value) : ∀ (k : Nat) (acc : List Value),
    List.foldl (fun x1 x2 => x1 ++ x2) acc.toArray (List.replicate k its.toArray) = (acc ++ (List.replicate k its).flatten).toArray
  | 0,acc => by simp
  | k + 1,acc => by
    have e : acc.toArray ++ its.toArray = (acc ++ its).toArray := by simp
    have e2 : (acc ++ its) ++ (List.replicate k its).flatten = acc ++ (List.replicate (k + 1) its).flatten := by
      rw [List.replicate_succ,List.flatten_cons,List.append_assoc]
    rw [← e2,← foldl_rep its k (acc ++ its),← e,List.replicate_succ,List.foldl_cons]
section
variable {X : Cx} {pins : List (Addr × Obj)} {σ : St} {H : Hp} {s : Shared} {l b : Addr} {xs ys zs : List V}
theorem Inv.lset {its its' : List Value} {n : Nat} {f : Array Value → Array Value} {t' : Nat} (I : Inv X pins σ H s) (hH : H l = some (.lst xs))
    (e : s.heap.get? l = some { cls := .type "list",data := .seq its.toArray n }) (hf : f its.toArray = its'.toArray) (hv : Vals ys its') (hz : ys.length ≤ sizeLine) :
    Inv X pins σ (upd H l (.lst ys)) { s with heap := s.heap.update l (Obj.mapSeq f),toks := t' } := by
  have q := PySem.IsL.update e f
  rw [hf] at q
  refine I.write (x:=l) (e:=l) (by rw [hH]; exact trivial) (.inl rfl) (fun b' u hb hu => (Heap.get?_update_other s.heap (Obj.mapSeq f) (Ne.symm hb)).trans hu) ⟨_,q⟩ ?_
  exact ⟨hz,its',_,hv,q⟩
theorem Inv.lnew {its : List Value} {t' : Nat} (I : Inv X pins σ H s) (hv : Vals ys its) (hz : ys.length ≤ sizeLine) :
    Inv X pins σ (upd H s.heap.objs.size (.lst ys)) { s with heap := s.heap.push { cls := .type "list",data := .seq its.toArray },toks := t' } :=
  I.laid (fun _ _ q => Heap.get?_push_of_some _ q) (Nat.le_refl _) ⟨hz,its,0,hv,Heap.get?_push_size _ rfl⟩
theorem Inv.fresh (I : Inv X pins σ H s) : H s.heap.objs.size = none := I.hok.fresh (Nat.le_refl _)
theorem Inv.lstM (I : Inv X pins σ H s) (hH : H l = some (.lst xs)) : xs.length ≤ sizeLine ∧ ∃ (its : List Value) (n : Nat),Vals xs its ∧ xs.length = its.length ∧ s.heap.get? l = some { cls := .type "list",data := .seq its.toArray n } := by
  obtain ⟨z,its,n,r,e⟩ := I.hok l _ hH
  exact ⟨z,its,n,r,r.length,e⟩
theorem notLongL {n : Nat} (h : n ≤ sizeLine) : Builtin.List.listTooLong n = false := by
  unfold Builtin.List.listTooLong
  exact decide_eq_false (by lia)
end
section
variable {X : Cx}
def rAppend : V → List V → Hp → VK → Prop := fun x vs H Q => ∃ l xs y,x = .ref l ∧ vs = [y] ∧ H l = some (.lst xs) ∧ xs.length < sizeLine ∧ Q .non (upd H l (.lst (xs ++ [y])))
theorem mt_append : MtM X "list.append" rAppend := by
  intro pins s σ H x vs v us Q I rx rv h
  obtain ⟨l,xs,y,rfl,rfl,hH,hz,q⟩ := h
  cases rx
  obtain ⟨u,rfl,ru⟩ := rv.one
  obtain ⟨z,its,n,r,hl,e⟩ := I.lstM hH
  refine call_meets F.slot_list_append ⟨_,e,rfl⟩ F.entry_list_append (F.args_list_append_2 _ _) (PySem.list_append l its.toArray n u (by rw [List.size_toArray]; lia)) ⟨e,?_⟩
  refine ⟨.non,_,I.lset (its':=its ++ [u]) hH e (by simp) (r.append (.cons ru .nil)) ?_,rfl,q⟩
  rw [List.length_append,List.length_singleton]
  lia
def rExtend : V → List V → Hp → VK → Prop := fun x vs H Q => ∃ l b xs zs,x = .ref l ∧ vs = [.ref b] ∧ H l = some (.lst xs) ∧ H b = some (.lst zs) ∧ xs.length + zs.length ≤ sizeLine ∧ Q .non (upd H l (.lst (xs ++ zs)))
theorem mt_extend : MtM X "list.extend" rExtend := by
  intro pins s σ H x vs v us Q I rx rv h
  obtain ⟨l,b,xs,zs,rfl,rfl,hH,hB,hz,q⟩ := h
  cases rx
  obtain ⟨u,rfl,ru⟩ := rv.one
  cases ru
  obtain ⟨z,its,n,r,hl,e⟩ := I.lstM hH
  obtain ⟨z2,its2,n2,r2,hl2,e2⟩ := I.lstM hB
  have hsz : its.toArray.size + its2.toArray.size ≤ sizeLine := by rw [List.size_toArray,List.size_toArray]; lia
  have hlong : ¬ (!its.toArray.isEmpty && Builtin.List.listTooLong (its.toArray.size + its2.toArray.size)) = true := by
    rw [notLongL hsz,Bool.and_false]
    exact Bool.false_ne_true
  refine call_meets F.slot_list_extend ⟨_,e,rfl⟩ F.entry_list_extend (F.args_list_extend_2 _ _)
    (AutoSeq1.list_extend_list_list_0 l its.toArray n b its2.toArray n2 hlong (by rw [List.size_toArray]; lia) (by lia)) ⟨e,e2,?_⟩
  refine ⟨.non,_,I.lset (its':=its ++ its2) hH e (by simp) (r.append r2) ?_,rfl,q⟩
  rw [List.length_append]
  lia
def rCat : R2 := fun x y H Q => ∃ l b xs zs,x = .ref l ∧ y = .ref b ∧ H l = some (.lst xs) ∧ H b = some (.lst zs) ∧ xs.length + zs.length ≤ sizeLine ∧ ∀ p,H p = none → Q (.ref p) (upd H p (.lst (xs ++ zs)))
theorem op_cat : OpR X (binaryOp .Add) rCat := by
  intro pins s σ H x y v u Q I rx ry h
  obtain ⟨l,b,xs,zs,rfl,rfl,hH,hB,hz,q⟩ := h
  cases rx
  cases ry
  obtain ⟨z,its,n,r,hl,e⟩ := I.lstM hH
  obtain ⟨z2,its2,n2,r2,hl2,e2⟩ := I.lstM hB
  refine PySem.P.add_list e e2 ?_ (by rw [List.size_toArray,List.size_toArray]; lia)
  have ea : its.toArray ++ its2.toArray = (its ++ its2).toArray := by simp
  rw [ea]
  exact ⟨.ref _,_,I.lnew (t':=s.toks) (r.append r2) (by rw [List.length_append]; lia),rfl,q _ I.fresh⟩
def rRep : R2 := fun x y H Q => ∃ l k xs,x = .ref l ∧ y = .int k ∧ H l = some (.lst xs) ∧ -(2 ^ 63) ≤ k ∧ k < 2 ^ 63 ∧ xs.length * k.toNat ≤ sizeLine ∧
  ∀ p,H p = none → Q (.ref p) (upd H p (.lst (List.replicate k.toNat xs).flatten))
theorem len_rep {α : Type} (xs : List α) (k : Nat) : (List.replicate k xs).flatten.length = k * xs.length := by
  induction k with
  | zero => simp
  | succ k ih => rw [List.replicate_succ,List.flatten_cons,List.length_append,ih,Nat.succ_mul,Nat.add_comm]
theorem op_rep : OpR X (binaryOp .Mult) rRep := by
  intro pins s σ H x y v u Q I rx ry h
  obtain ⟨l,k,xs,rfl,rfl,hH,h1,h2,hz,q⟩ := h
  cases rx
  obtain ⟨t,rfl⟩ := ry
  obtain ⟨z,its,n,r,hl,e⟩ := I.lstM hH
  have hlen : its.toArray.size * k.toNat ≤ sizeLine := by rw [List.size_toArray,← hl]; exact hz
  have hcap : ¬ its.toArray.size * k.toNat > (2 ^ 63 - 1) / 8 := by
    have : (sizeLine : Nat) ≤ (2 ^ 63 - 1) / 8 := by decide
    lia
  have hfit : ¬ (!Builtin.List.listFitsIndex k) = true := by
    rw [fitsIndex_both h1 h2]
    exact Bool.false_ne_true
  have hlong : ¬ Builtin.List.listTooLong (its.toArray.size * k.toNat) = true := by
    rw [notLongL hlen]
    exact Bool.false_ne_true
  have hnew : List.foldl (fun x1 x2 => x1 ++ x2) #[] (List.replicate (if its.toArray.isEmpty = true then 0 else k.toNat) its.toArray) = (List.replicate k.toNat its).flatten.toArray := by
    have f0 : ∀ m : Nat,List.foldl (fun x1 x2 => x1 ++ x2) #[] (List.replicate m its.toArray) = (List.replicate m its).flatten.toArray := fun m => by
      have := foldl_rep its m []
      rw [List.nil_append] at this
      exact this
    rw [f0]
    cases its with
    | nil => simp
    | cons a r' => rw [if_neg (by simp)]
  refine wpAny_binaryOp_repeat_ref (T:="list") (U:="int") (by decide) ⟨_,e,rfl⟩ (fun s' => typeIs_int s' k t) noFill_list_mul F.fills_int_mul F.slot_int_rmul repeat_list F.slot_int_index.lookup
    (call_meets F.slot_int_rmul (typeIs_int s k t) F.entry_int_rmul (F.args_int_rmul_2 _ _) (int___rmul___int_list k t l its.toArray n)
      ⟨e,rfl,⟨_,e,rfl⟩,call_meets F.slot_list_mul ⟨_,e,rfl⟩ F.entry_list_mul (F.args_list_mul_2 _ _) (AutoListH.list___mul___list_int_3 l its.toArray n k t hfit hcap hlong) ⟨e,?_⟩⟩)
  rw [hnew]
  exact ⟨.ref _,_,I.lnew (t':=s.toks) (r.rep k.toNat) (by rw [len_rep,Nat.mul_comm]; exact hz),rfl,q _ I.fresh⟩
end
section
variable {prog : Program} {w : World} {A : Around} {E : Value → Shared → Prop} {s : Shared}
set_option maxRecDepth 100000 in
end
section
variable {X : Cx}
end
end L2
namespace Att
open PySem PySem.W PySem.Calls PyProof.Rows
theorem ints_of_wellAll {P : Params} {h : Heap} : ∀ (ns : List Int) (vs : List Value),WellAll P h vs (ns.map WData.int) → IntsAre vs ns := by
  intro ns
  induction ns with
  | nil =>
    intro vs w
    rw [List.map_nil] at w
    cases w
    exact .nil
  | cons n ns ih =>
    intro vs w
    rw [List.map_cons] at w
    cases w with
    | cons a b =>
      cases a
      exact .cons _ _ (ih _ b)
theorem script_of {l : OpenLaw} {n : Nat} (hn : l.most = some n) {P : Params} {h : Heap} {args : List WData} {vals : List Value}
    (hpre : l.row.toRowW.claim.pre args = true) (hwl : WellAll P h vals args) :
    ∃ a vs ns,vals = [Value.ref a] ∧ args = [WData.list (ns.map WData.int)] ∧ h.get? a = some { cls := .type "list",data := .seq vs.toArray } ∧ IntsAre vs ns ∧ ns.length ≤ n := by
  have hsh : WShape.hasAll [] args [.list .int] = true := (pre_splitW hpre).1
  have hc : l.pre.holds [] { args := args } = true := (pre_splitW hpre).2
  obtain ⟨d,r,rfl,h1,h2⟩ := hasAllW_cons hsh
  obtain rfl := hasAllW_nil h2
  obtain ⟨xs,rfl,h3⟩ := hasW_list h1
  obtain ⟨ns,rfl⟩ := items_int h3
  have hlen : ns.length ≤ n := by
    unfold OpenLaw.pre at hc
    have h4 : (WTm.not (.lt (.lit (.int (n : Int))) (.len (.arg 0)))).holds [] { args := [.list (ns.map .int)] } = true := by
      have h4 := (holds_andW hc).1
      rw [hn] at h4
      exact h4
    have h5 := condW_of h4 (w_not (w_lt w_lit (w_len_list (w_arg rfl))))
    rw [List.length_map] at h5
    refine Nat.le_of_not_lt fun q => ?_
    have q' : (n : Int) < ((ns.length : Nat) : Int) := by omega
    first
      | (rw [decide_eq_true q'] at h5; exact absurd h5 (by decide))
      | (simp at h5; omega)
  cases hwl with
  | cons w1 w2 =>
    cases w2
    cases w1 with
    | list ho hall => exact ⟨_,_,ns,rfl,rfl,ho,ints_of_wellAll ns _ hall,hlen⟩
theorem post_true (l : OpenLaw) (args : List WData) : l.row.toRowW.claim.post args (.bool true) args = true :=
  postW_of (r:=l.row.toRowW) (X:=(true == true))
    (show WShape.has [] (.bool true) .bool = true by first | rfl | decide | simp [WShape.has,WShape.arms,WShape.armsAll])
    (show (WTm.eq .res (.lit (.bool true))).value [] { args := args,res := some (.bool true),after := args } = some (.bool (true == true)) from w_eq_bool (w_res rfl) w_lit) rfl
theorem attach_call {l : OpenLaw} {n : Nat} {q : Program} {loose : List Str} {XP : (Str → Option Value) → Heap → Prop} {YP : World → Heap → Prop} {d : DefRec}
    (hn : l.most = some n) (hdf : d.params.defaults = [])
    (call : ∀ (w : World) (s₀ s₁ : Shared) (mg mb : Str → Option Value) (fa : Addr) (o : Obj) (pm cd doc : Value) (a : Addr) (vs : List Value) (ns : List Int),
      Ground q loose [] XP w s₀ mg mb s₁.heap → YP w s₁.heap →
      s₁.heap.get? fa = some o → o.data = .func (docDef d.name d.params d.body d.scope pm cd doc) → s₁.heap.CodeRec cd d.name → mg d.name = some (.ref fa) →
      s₁.heap.get? a = some { cls := .type "list",data := .seq vs.toArray } → IntsAre vs ns → ns.length ≤ n → s₁.gens = #[] →
      codeAny (model l.prog w) callerA (.call (.ref fa) ⟨[.ref a],[]⟩) (fun r s' => r = .ok (.ret (.bool true)) ∧ OldK s₁.heap s'.heap ∧ s'.os = s₁.os ∧ AllBare s'.gens) s₁) :
    WalkO q loose XP YP l.row.toRowW d [] (fun f vs => PySem.call f vs) := by
  intro w s₀ s₁ mg mb G Y fa o pm cd doc dV kV ho hd hcd hD hmg hg args vals as hpre hlay hrd hwl hlo
  obtain rfl : dV = .none := Dflts.none hD hdf
  obtain rfl : kV = .none := Dflts.noKw hD
  obtain ⟨a,vs,ns,rfl,rfl,hobj,hints,hlen⟩ := script_of hn hpre hwl
  refine enter_call (codeAny_mono (call w s₀ s₁ mg mb fa o pm cd doc a vs ns G Y ho (fd_plain hd) hcd hmg hobj hints hlen hg) fun r s' hq => ?_)
  obtain ⟨rfl,h2,h3,h4⟩ := hq
  exact ⟨.inl ⟨.bool true,.bool true,[],rfl,fun _ => rfl,.bool true,post_true l _,fun _ => ⟨List.Pairwise.nil,fun _ hm => (nomatch hm)⟩⟩,h2,h3,h4⟩
section
variable {prog : Program} {w : World} {A : Around} {E : Value → Shared → Prop} {s : Shared} {K : Frag}
end
end Att
namespace L2
open PySem PySem.Spec PyProof.Rows
theorem vals_ints : ∀ {vs : List Value} {ns : List Int},IntsAre vs ns → Vals (ns.map V.int) vs
  | _,_,.nil => .nil
  | _,_,.cons n t h => .cons ⟨t,rfl⟩ (vals_ints h)
def Only (H : Hp) : Prop := ∀ b,H b = none ∨ ∃ o xs,H b = some (.frz o (.lst xs))
theorem law_call {P : Program} {w : World} {K : PySem.W.Frag} {mg mb : Str → Option Value} {CX : CXT} {k : Nat} {fa a : Addr} {fd : FuncData} {x : Str} {sp : Sp} {s₁ : Shared} {vs : List Value} {ns : List Int}
    (KX : K.In s₁.heap) (hns : s₁.heap.Ns mainGlobals mg) (hb : s₁.heap.Ns builtinsNs mb) (hbb : ∀ x : Str,x ≠ "__name__" → mb x = bootBuiltins x) (hlim : s₁.heap.NoLimit) (hg : s₁.gens = #[])
    (ha : s₁.heap.get? a = some { cls := .type "list",data := .seq vs.toArray }) (hi : IntsAre vs ns) (hl : ns.length ≤ sizeLine) (hr : Room k callerA)
    (F : ∀ base : Heap,K.In base → base.Ns mainGlobals mg → FnOk P w K mg base CX k fa fd [x] sp) (hbind : ∀ (s : Shared) (u : Value),BindsTo s fd ⟨[u],[]⟩ [(x,u)])
    (hsp : ∀ H : Hp,Only H → SqL K H a (ns.map V.int) → sp [.ref a] H (fun v _ => v = .bl true) fun _ _ _ => False)
    (hCX : ∀ H e s',CX [] H s₁ (fun _ _ _ => False) e s' → False) :
    codeAny (model P w) callerA (.call (.ref fa) ⟨[.ref a],[]⟩) (fun r s' => r = .ok (.ret (.bool true)) ∧ OldK s₁.heap s'.heap ∧ s'.os = s₁.os ∧ AllBare s'.gens) s₁ := by
  have rv := vals_ints hi
  have lenV := hi.length
  have core : ∀ H : Hp,Only H → SqL K H a (ns.map V.int) → HOk P w H s₁.heap → (∀ b,H b ≠ none → b = a) → (H a ≠ none → K.lookup a = none) →
      codeAny (model P w) callerA (.call (.ref fa) ⟨[.ref a],[]⟩) (fun r s' => r = .ok (.ret (.bool true)) ∧ OldK s₁.heap s'.heap ∧ s'.os = s₁.os ∧ AllBare s'.gens) s₁ := by
    intro H hO hS hok hA hK
    have base_of : ∀ {b : Addr} {o : Obj},s₁.heap.get? b = some o → H b = none → (hidT s₁.heap H).get? b = some o := fun e n => hidT_get e n
    have noA : ∀ {b : Addr} {o : Obj} {es : Array DictEntry} {ep : Nat},s₁.heap.get? b = some o → o.data = .dict es ep → H b = none := fun {b o es ep} e d => by
      cases q : H b with
      | none => rfl
      | some u =>
        have e' : b = a := hA b (by rw [q]; simp)
        subst e'
        rw [ha] at e; cases e
        have d' : Data.seq vs.toArray _ = Data.dict es ep := d
        cases d'
    have nsK : ∀ {b : Addr} {m : Str → Option Value},s₁.heap.Ns b m → (hidT s₁.heap H).Ns b m := fun {b m} ⟨o,es,ep,e,d,r⟩ => ⟨o,es,ep,base_of e (noA e d),d,r⟩
    have hKb : K.In (hidT s₁.heap H) := fun b o e => base_of (KX b o e) (by
      cases q : H b with
      | none => rfl
      | some u =>
        have e' : b = a := hA b (by rw [q]; simp)
        subst e'
        rw [hK (by rw [q]; simp)] at e; cases e)
    have hM : Mod K mg (hidT s₁.heap H) := ⟨hKb,nsK hns,⟨mb,nsK hb,hbb⟩,let ⟨mc,h1,h2⟩ := hlim; ⟨mc,nsK h1,h2⟩⟩
    have e0 : Env0 P w K mg (hidT s₁.heap H) callerA [] s₁ H := ⟨rfl,hM,fun b o e => of_hidT e,Nat.le_of_eq (hidT_size _ _),trivial,fun b hb => absurd (show b ∈ ([] : List Addr) from hb) (by simp),hok,.of_eq hg⟩
    refine codeAny_mono ((F _ hKb (nsK hns)).run callerA [] s₁ H ⟨[.ref a],[]⟩ [.ref a] [.ref a] _ _ hr e0 (hbind s₁ (.ref a)) (.cons rfl .nil) (hsp H hO hS)) fun r s' h => ?_
    cases r with
    | error e => exact (hCX H e s' h).elim
    | ok fl =>
      cases fl with
      | next => exact False.elim h
      | brk => exact False.elim h
      | cont => exact False.elim h
      | ret u =>
        obtain ⟨v,H',os,bare,un,hok',r',q⟩ := h
        have q' : v = .bl true := q
        subst q'
        obtain rfl : u = Value.bool true := r'
        refine ⟨rfl,OldK.of_keep fun b o e => ?_,os,bare⟩
        cases q : H b with
        | none => exact un.keep b o e q (by intro z; exact absurd (show b ∈ ([] : List Addr) from z) (by simp)) (by simp)
        | some u =>
          rcases hO b with z | ⟨ob,xs,z⟩
          · rw [q] at z; cases z
          · have z2 := un.frzs b ob _ z
            obtain ⟨e1,_⟩ := hok b _ z
            obtain ⟨e2,_⟩ := hok' b _ z2
            rw [e] at e1; cases e1
            exact e2
  cases hk : K.lookup a with
  | some o =>
    have e := KX a o hk
    rw [ha] at e
    cases e
    refine core (fun _ => none) (fun _ => .inl rfl) (.inr ⟨_,vs.toArray,_,hk,rfl,rfl,rfl,by rw [List.size_toArray,lenV]; exact hl,by simpa using rv⟩) (fun b u z => by have z' : (none : Option HO) = some u := z; cases z') (fun b z => absurd rfl z) fun z => absurd rfl z
  | none =>
    refine core (fun b => if b = a then some (.frz { cls := .type "list",data := .seq vs.toArray } (.lst (ns.map V.int))) else none) (fun b => ?_) (.inl (.inr ⟨{ cls := .type "list",data := .seq vs.toArray },if_pos rfl⟩)) (fun b u z => ?_) (fun b z => ?_) fun _ => hk
    · by_cases hb : b = a
      · exact .inr ⟨_,_,if_pos hb⟩
      · exact .inl (if_neg hb)
    · by_cases hb : b = a
      · have z' := (if_pos hb).symm.trans z
        cases z'
        subst hb
        exact ⟨ha,by rw [List.length_map]; exact hl,vs,_,rv,ha⟩
      · have z' := (if_neg hb).symm.trans z
        cases z'
    · by_cases hb : b = a
      · exact hb
      · exact absurd (if_neg hb) z
end L2
namespace L2
open PySem PySem.Spec PyProof.Rows
theorem walk_of {l : PySem.W.OpenLaw} {n k : Nat} {q : Program} {loose : List Str} {XP : (Str → Option Value) → Heap → Prop} {YP : World → Heap → Prop} {d : DefRec} {K : Params → PySem.W.Frag} {CX : World → CXT} {sp : World → Sp} {x : Str}
    (hn : l.most = some n) (hn2 : n ≤ sizeLine) (hdf : d.params.defaults = []) (hr : Room k callerA)
    (hY : ∀ (w : World) (h : Heap),YP w h → (K w.params).In h)
    (F : ∀ (w : World) (mg : Str → Option Value) (fa : Addr) (h : Heap),(K w.params).In h → h.Ns mainGlobals mg → mg d.name = some (.ref fa) →
      ∃ fd : FuncData,(∀ (s : Shared) (u : Value),BindsTo s fd ⟨[u],[]⟩ [(x,u)]) ∧
        ∀ base : Heap,(K w.params).In base → base.Ns mainGlobals mg → FnOk l.prog w (K w.params) mg base (CX w) k fa fd [x] (sp w))
    (hsp : ∀ (w : World) (H : Hp) (a : Addr) (ns : List Int),ns.length ≤ n → Only H → SqL (K w.params) H a (ns.map V.int) → sp w [.ref a] H (fun v _ => v = .bl true) fun _ _ _ => False)
    (hCX : ∀ (w : World) (H : Hp) (s : Shared) (e : Value) (s' : Shared),CX w [] H s (fun _ _ _ => False) e s' → False) :
    PySem.W.WalkO q loose XP YP l.row.toRowW d [] (fun f vs => PySem.call f vs) := by
  refine Att.attach_call hn hdf fun w s₀ s₁ mg mb fa o pm cd doc a vs ns G Y ho hd hcd hmg hobj hints hlen hg => ?_
  have KX := hY w _ Y
  obtain ⟨fd,hb,hF⟩ := F w mg fa _ KX G.T.g hmg
  exact law_call KX G.T.g G.T.b G.T.builtins G.T.nolimit hg hobj hints (Nat.le_trans hlen hn2) hr hF hb (fun H hO hS => hsp w H a ns hlen hO hS) fun H e s' => hCX w H s₁ e s'
end L2
namespace L2
open PySem PySem.Spec PyProof.Rows
def inClass (s : Stmt) (j : Nat) : Stmt := match s with
  | .ClassDef _ _ _ body _ _ _ _ _ _ _ => body.getD j (.Pass ⟨0,0,0,0⟩)
  | _ => .Pass ⟨0,0,0,0⟩
def defArgs (s : Stmt) : Arguments := match s with
  | .FunctionDef _ a _ _ _ _ _ _ _ _ => a
  | _ => { posonlyargs := [],args := [],vararg := none,kwonlyargs := [],kw_defaults := [],kwarg := none,defaults := [] }
def defBody (s : Stmt) : List Stmt := match s with
  | .FunctionDef _ _ b _ _ _ _ _ _ _ => b
  | _ => []
def defScope (s : Stmt) : Scope := match s with
  | .FunctionDef _ _ _ _ _ _ sc _ _ _ => sc
  | _ => { kind := .function,names := [],isGenerator := false,isCoroutine := false }
structure Fun (K : PySem.W.Frag) (x qual : Str) (st : Stmt) (f : Addr) (fd : FuncData) : Prop where
  ex : ∃ (oc : Value) (od : Option Addr) (kV doc pm : Value) (an : Option Addr) (cdv ct : Value) (osl : Array (Option Value)),
    fd = PySem.W.fnOf x qual (defArgs st) (defBody st) (defScope st) .none kV doc pm an cdv ct ∧ K.lookup f = some ⟨oc,od,.func fd,osl⟩ ∧ PySem.W.codeIn K cdv qual = true
  kp : PySem.W.keepIn K (.ref f) = true
section
variable {P : Program} {w : World} {K : PySem.W.Frag} {mg : Str → Option Value} {base : Heap}
theorem Fun.binds {x qual : Str} {st : Stmt} {f : Addr} {fd : FuncData} {ps : List Str} (F : Fun K x qual st f fd)
    (h : ∀ (kV doc pm : Value) (an : Option Addr) (cdv ct : Value) (us : List Value),us.length = ps.length → bindArgs (PySem.W.fnOf x qual (defArgs st) (defBody st) (defScope st) .none kV doc pm an cdv ct) ⟨us,[]⟩ = pure (ps.zip us)) : Binds K fd ps [] := by
  obtain ⟨oc,od,kV,doc,pm,an,cdv,ct,osl,rfl,lk,hcd⟩ := F.ex
  exact .all (h kV doc pm an cdv ct)
theorem fun_mk {x qual : Str} {st : Stmt} {f : Addr} {oc : Value} {od an : Option Addr} {osl : Array (Option Value)} {kV doc pm cdv ct : Value} (l : K.lookup f = some ⟨oc,od,.func (PySem.W.fnOf x qual (defArgs st) (defBody st) (defScope st) .none kV doc pm an cdv ct),osl⟩)
    (c : PySem.W.codeIn K cdv qual = true) (k : PySem.W.keepIn K (.ref f) = true) : Fun K x qual st f (PySem.W.fnOf x qual (defArgs st) (defBody st) (defScope st) .none kV doc pm an cdv ct) := ⟨⟨oc,od,kV,doc,pm,an,cdv,ct,osl,rfl,l,c⟩,k⟩
end
theorem small1000 {n : Nat} (h : n ≤ 1000) : n < sizeLine := Nat.lt_of_le_of_lt h (by decide)
section
variable {X : Cx}
end
def Same (H H' : Hp) : Prop := ∀ b o,H b = some o → H' b = some o
theorem Same.refl (H : Hp) : Same H H := fun _ _ h => h
theorem Same.trans {H H1 H2 : Hp} (a : Same H H1) (b : Same H1 H2) : Same H H2 := fun c o h => b c o (a c o h)
theorem Same.free {H H' : Hp} (e : Same H H') {l : Addr} (h : H' l = Option.none) : H l = Option.none := by
  cases q : H l with
  | none => rfl
  | some o =>
    rw [e l o q] at h
    cases h
end L2
set_option Elab.async false
set_option maxRecDepth 100000
set_option maxHeartbeats 4000000
namespace L2
open PySem PySem.Spec PyProof.Rows
def clos (env : Env) : List (Str × NameKind) → List (Str × Addr) → List (Str × Addr)
  | [],acc => acc
  | (n,k) :: r,acc => clos env r (if (k == NameKind.free) = true then (match env.cells.lookup n with | some a => (n,a) :: acc | none => acc) else acc)
theorem closureFor_eq {scope : Scope} {env : Env} (h : ∀ x,(x,NameKind.free) ∈ scope.names → ∃ c,env.cells.lookup x = some c) : closureFor scope env = pure (clos env scope.names []) := by
  simp only [closureFor]
  generalize ([] : List (Str × Addr)) = acc
  generalize hN : scope.names = N at h
  clear hN
  induction N generalizing acc with
  | nil => rfl
  | cons p r ih =>
    obtain ⟨n,k⟩ := p
    have ih' := fun acc => ih acc fun x hx => h x (List.mem_cons_of_mem _ hx)
    rw [List.forIn_cons]
    unfold clos
    by_cases hk : (k == NameKind.free) = true
    · have hk' : k = NameKind.free := by simpa using hk
      subst hk'
      obtain ⟨c,hc⟩ := h n List.mem_cons_self
      have e : cellOf env n = pure c := by unfold cellOf; rw [hc]
      simp only [hk,if_true,hc,e,pure_bind]
      exact ih' _
    · simp only [hk,if_false,pure_bind]
      exact ih' _
theorem clos_cons {env : Env} {n : Str} {k : NameKind} {r : List (Str × NameKind)} {acc : List (Str × Addr)} :
    clos env ((n,k) :: r) acc = clos env r (if (k == NameKind.free) = true then (match env.cells.lookup n with | some a => (n,a) :: acc | none => acc) else acc) := rfl
theorem clos_sub {env : Env} {x : Str} {c : Addr} : ∀ {N : List (Str × NameKind)} {acc : List (Str × Addr)},(∀ y d,acc.lookup y = some d → env.cells.lookup y = some d) → (clos env N acc).lookup x = some c → env.cells.lookup x = some c
  | [],_,ha,h => ha _ _ h
  | (n,k) :: r,acc,ha,h => by
    rw [clos_cons] at h
    refine clos_sub (N:=r) (fun y d hy => ?_) h
    split at hy
    · split at hy
      · rename_i a ea
        rw [List.lookup_cons] at hy
        split at hy
        · rename_i q
          have : y = n := by simpa using q
          subst this
          cases hy; exact ea
        · exact ha _ _ hy
      · exact ha _ _ hy
    · exact ha _ _ hy
theorem clos_keep {env : Env} {x : Str} : ∀ {N : List (Str × NameKind)} {acc : List (Str × Addr)},(∃ c,acc.lookup x = some c) → ∃ c,(clos env N acc).lookup x = some c
  | [],_,h => h
  | (n,k) :: r,acc,h => by
    rw [clos_cons]
    refine clos_keep (N:=r) ?_
    split
    · split
      · rw [List.lookup_cons]
        split
        · exact ⟨_,rfl⟩
        · exact h
      · exact h
    · exact h
theorem clos_has {env : Env} {x : Str} : ∀ {N : List (Str × NameKind)} {acc : List (Str × Addr)},(x,NameKind.free) ∈ N → (∃ c,env.cells.lookup x = some c) → ∃ c,(clos env N acc).lookup x = some c
  | [],_,h,_ => by simp at h
  | (n,k) :: r,acc,h,hc => by
    rw [clos_cons]
    rcases List.mem_cons.mp h with h | h
    · injection h with h1 h2
      subst h1
      subst h2
      obtain ⟨c,e⟩ := hc
      refine clos_keep ?_
      simp [e]
    · exact clos_has h hc
theorem lookup_relabel {env : Env} {x : Str} : ∀ (names : List (Str × NameKind)),
    (names.map fun (n,k) => if (k == NameKind.free && env.scope.kind == .function && env.kindOf n == some .cell) then (n,NameKind.cell) else (n,k)).lookup x =
      (names.lookup x).map fun k => if (k == NameKind.free && env.scope.kind == .function && env.kindOf x == some .cell) then NameKind.cell else k
  | [] => rfl
  | (n,k) :: r => by
    have ih := lookup_relabel (env:=env) (x:=x) r
    rw [List.map_cons]
    show List.lookup x ((if (k == NameKind.free && env.scope.kind == .function && env.kindOf n == some .cell) = true then (n,NameKind.cell) else (n,k)) :: _) = _
    by_cases hx : (x == n) = true
    · have e : x = n := by simpa using hx
      subst e
      split <;> simp_all [List.lookup_cons]
    · have hx' : (x == n) = false := by simpa using hx
      split
      · rw [List.lookup_cons,List.lookup_cons,hx']; exact ih
      · rw [List.lookup_cons,List.lookup_cons,hx']; exact ih
theorem kindOf_relabel {scope : Scope} {env : Env} {x : Str} : (relabel scope env).names.lookup x = (scope.names.lookup x).map fun k => if (k == NameKind.free && env.scope.kind == .function && env.kindOf x == some .cell) then NameKind.cell else k := lookup_relabel scope.names
theorem codeAny_compLoop_go {prog : Program} {w : World} {A : Around} {R : Result → Shared → Prop} {s : Shared} {elt target iter : Expr} {ifs : List Expr} {scope : Scope} {pos : Pos} {it acc : Value} {env : Env} (I : Nat → Shared → Prop)
    (turn : ∀ n s,I n s → wpAny (model prog w) A (pyNext it) (fun r s₁ => match r with
      | none => R (.ok .next) s₁
      | some v => wpAny (model prog w) A (letOwnedTupleGo target it v) (fun _ s₁' => wpAny (model prog w) A (assign target env v) (fun _ s₂ =>
          wpAny (model prog w) A (forIn ifs true fun c r => if r = true then do let ok ← isTrue c env (eval c env); pure (ForInStep.yield ok) else pure (ForInStep.yield r)) (fun ok s₃ =>
            if ok = true then wpAny (model prog w) A (eval elt env) (fun x s₄ =>
              wpAny (model prog w) A (call (.builtin "list.append") [acc,x]) (fun _ s₅ => ∃ m,m < n ∧ I m s₅) (fun _ _ => False) s₄) (fun _ _ => False) s₃
            else ∃ m,m < n ∧ I m s₃) (fun _ _ => False) s₂) (fun _ _ => False) s₁') (fun _ _ => False) s₁) (fun _ _ => False) s)
    (n : Nat) (h : I n s) :
    codeAny (model prog w) A (.compLoop (.ListComp elt [⟨target,iter,ifs,0⟩] scope pos) 0 it acc env) R s := by
  refine codeAny_loop rfl I (fun n s hI => ?_) n h
  show wpAny _ A ((compTurn (.ListComp elt [⟨target,iter,ifs,0⟩] scope pos) 0 it acc env).onRaise (fun x => do noteFrame x env; theTreesLotGoes x)) _ _ s
  refine wpAny_noted ?_
  rw [compTurn_list]
  refine wpAny_bind (wpAny_standAt (wpAny_bind (wpAny_mono (turn n s hI) (fun r s₁ h₁ => ?_) fun _ _ h' => h'.elim)))
  cases r with
  | none => exact wpAny_pure h₁
  | some v =>
    refine wpAny_bind (wpAny_mono h₁ (fun _ s₁' h₁' => ?_) fun _ _ h' => h'.elim)
    refine wpAny_bind (wpAny_mono h₁' (fun _ s₂ h₂ => wpAny_bind (wpAny_mono h₂ (fun ok s₃ h₃ => ?_) fun _ _ h' => h'.elim)) fun _ _ h' => h'.elim)
    cases ok with
    | false => exact wpAny_pure ⟨rfl,h₃⟩
    | true =>
      exact wpAny_bind (wpAny_bind (wpAny_mono h₃ (fun x s₄ h₄ => wpAny_bind (wpAny_mono h₄ (fun _ s₅ h₅ => wpAny_pure (wpAny_pure ⟨rfl,h₅⟩)) fun _ _ h' => h'.elim)) fun _ _ h' => h'.elim))
def compCx (X : Cx) (N' : List Str) (scope : Scope) (cl : List (Str × Addr)) (C : Addr) (s : Shared) (H : Hp) (fp : List Addr) : Cx :=
  { X with N := N',s₀ := s,H₀ := H,env := compEnvC scope cl C X.env,outer := X.stack,ex := fp,fn := fun _ => false,pn := [],xe := fun _ _ => False }
def PTs (X : Cx) (ifs : List Expr) (t : TT) : Prop :=
  ∀ (pins : List (Addr × Obj)) (s : Shared) (σ : St) (H : Hp) (Q : Bool → Hp → Prop),Inv X pins σ H s → t σ H Q →
    wpAny (model X.prog X.w) X.A (forIn ifs true fun c r => if r = true then do let ok ← isTrue c X.env (eval c X.env); pure (ForInStep.yield ok) else pure (ForInStep.yield r)) (TP X pins σ Q) X.xe s
def tTrue : TT := fun _ H Q => Q true H
theorem pts_nil {X : Cx} : PTs X [] tTrue := fun _ _ _ H _ I h => wpAny_tests_nil ⟨H,I,h⟩
theorem pts_one {X : Cx} {c : Expr} {t : TT} (h : PT X c t) : PTs X [c] t := fun pins s σ H Q I q => wpAny_tests_one (h pins s σ H Q I q)
def stIn (ix : List (Option Nat)) (σ : St) : St := ix.map fun o => match o with | some i => (σ[i]?).getD none | none => none
structure LcScope (X : Cx) (N' : List Str) (ix : List (Option Nat)) (scope : Scope) : Prop where
  kind : scope.kind = .function
  nocell : ∀ y ∈ scope.names,y.2 ≠ .cell
  names : ∀ x ∈ scope.names,x.2 = .local → scope.names.lookup x.1 = some .local
  free : ∀ x ∈ scope.names,x.2 = .free → X.env.scope.names.lookup x.1 = some .cell ∨ X.env.scope.names.lookup x.1 = some .free
  len : ix.length = N'.length
  at_ : ∀ (j i : Nat),ix[j]? = some (some i) → ∃ x,N'[j]? = some x ∧ X.N[i]? = some x ∧ scope.names.lookup x = some .free
section
variable {X : Cx} {N' : List Str} {ix : List (Option Nat)} {scope : Scope} {pins : List (Addr × Obj)} {σ : St} {H : Hp} {s : Shared}
theorem stIn_length : (stIn ix σ).length = ix.length := by simp [stIn]
theorem Inv.cells_of (S : LcScope X N' ix scope) (I : Inv X pins σ H s) : ∀ x,(x,NameKind.free) ∈ scope.names → ∃ c,X.env.cells.lookup x = some c := fun x hx => I.ok.has x (S.free _ hx rfl)
theorem inv_comp (S : LcScope X N' ix scope) (I : Inv X pins σ H s) {fp : List Addr} (hf : ∀ b ∈ fp,FpOk X pins H b) (hfb : ∀ b ∈ fp,b < s.heap.objs.size) {C : Addr} {h1 : Heap} {tk : Nat} {m : Str → Option Value} (hC : s.heap.objs.size ≤ C) (hn : h1.Ns C m)
    (hk : ∀ b o,s.heap.get? b = some o → h1.get? b = some o) : Inv (compCx X N' scope (clos X.env scope.names []) C s H fp) [] (stIn ix σ) H { s with heap := h1,toks := tk } := by
  have sub : ∀ x c,(clos X.env scope.names []).lookup x = some c → X.env.cells.lookup x = some c := fun x c h => clos_sub (acc:=[]) (fun _ _ z => by simp at z) h
  have kf : ∀ x,((relabel scope X.env).names.lookup x = some .cell ∨ (relabel scope X.env).names.lookup x = some .free) → scope.names.lookup x = some .free := fun x hx => by
    rw [kindOf_relabel] at hx
    cases e : scope.names.lookup x with
    | none => rw [e] at hx; simp at hx
    | some k =>
      rw [e] at hx
      cases k with
      | free => rfl
      | cell => exact absurd rfl (S.nocell _ (PySem.mem_of_lookup e))
      | _ => rcases hx with hx | hx <;> · simp at hx
  have cellC : ∀ x c,(clos X.env scope.names []).lookup x = some c → ∀ v,s.heap.IsCell c v → h1.IsCell c v := fun x c _ v ⟨o,ho,hd⟩ => ⟨o,hk c o ho,hd⟩
  have hCn : H C = none := I.hok.fresh hC
  refine ⟨⟨I.ok.mod,S.kind,I.ok.glob,I.ok.blt,hC,fun x y c h1 h2 => I.ok.inj x y c (sub x c h1) (sub y c h2),fun x hx => ?_,fun x c h => (by cases h),I.ok.hd,I.ok.frames,.inl rfl,fun b hb => ?_,I.bs,Nat.le_trans I.ok.bsz I.sz,fun b o e hb => ?_,fun b hb z => ?_,I.stack,I.stkFree⟩,
    rfl,I.bare,Un.kept hk,⟨m,hn,fun j x v e1 e2 e3 => ?_⟩,fun x c e => ?_,hCn,fun x c e => I.freeC x c (sub x c e),fun p hp => absurd (show p ∈ ([] : List (Addr × Obj)) from hp) (by simp),I.hok.kept hk,?_⟩
  · exact clos_has (PySem.mem_of_lookup (kf x hx)) (I.cells_of S x (PySem.mem_of_lookup (kf x hx)))
  · refine ⟨fun z => ?_,fun x c e => (hf b hb).2.2.2.2.1 x c (sub x c e)⟩
    have z' : b = C := z
    exact absurd (Nat.lt_of_lt_of_le (hfb b hb) hC) (by rw [z']; exact Nat.lt_irrefl _)
  · have q := (I.bs b o e)
    rcases (hf b hb).2.2.2.1 with z | z
    · exact I.ok.noex b o e z
    · exact absurd (Nat.lt_of_lt_of_le (Heap.lt_size e) (Nat.le_trans I.ok.bsz z)) (Nat.lt_irrefl _)
  · rcases List.mem_cons.mp (I.stkSub b z) with q | q
    · exact (hf b hb).2.1 q
    · exact (hf b hb).2.2.1 q
  · have e2' : (stIn ix σ)[j]? = some (some v) := e2
    unfold stIn at e2'
    rw [List.getElem?_map] at e2'
    cases ej : ix[j]? with
    | none => rw [ej] at e2'; cases e2'
    | some o =>
      rw [ej] at e2'
      cases o with
      | none => cases e2'
      | some i =>
        obtain ⟨y,ey1,ey2,ey3⟩ := S.at_ j i ej
        have e1' : N'[j]? = some x := e1
        have exy : y = x := by rw [ey1] at e1'; exact Option.some.inj e1'
        subst exy
        have e2'' : (σ[i]?).getD none = some v := Option.some.inj e2'
        have es : σ[i]? = some (some v) := by
          cases q : σ[i]? with
          | none => rw [q] at e2''; cases e2''
          | some z => rw [q] at e2''; rw [show z = some v from e2'']
        have hv := S.free _ (PySem.mem_of_lookup ey3) rfl
        obtain ⟨m0,hn0,hl0⟩ := I.loc
        obtain ⟨u,r,l⟩ := hl0 i y v ey2 es (.inr hv)
        refine ⟨u,r,.inr ⟨?_,?_⟩⟩
        · show (relabel scope X.env).names.lookup y = some .cell ∨ (relabel scope X.env).names.lookup y = some .free
          rw [kindOf_relabel,ey3]
          show some (if _ then _ else _) = _ ∨ some (if _ then _ else _) = _
          split
          · exact .inl rfl
          · exact .inr rfl
        · rcases l with ⟨lk,_⟩ | ⟨_,c,hc,hcell⟩
          · rcases hv with hv | hv <;> · rw [show X.env.kindOf y = X.env.scope.names.lookup y from rfl,hv] at lk; cases lk
          · obtain ⟨d,hd⟩ := clos_has (acc:=[]) (PySem.mem_of_lookup ey3) ⟨c,hc⟩
            have := sub y d hd
            rw [hc] at this; cases this
            exact ⟨c,hd,cellC y c hd _ hcell⟩
  · obtain ⟨v,z⟩ := I.cell x c (sub x c e)
    exact ⟨v,cellC x c e v z⟩
  · show (stIn ix σ).length = N'.length
    rw [stIn_length,S.len]
end
def tLc (wi : TI) (ix : List (Option Nat)) (g : TG) (tt : TT) (te : TE) : TE := fun σ H Q => wi σ H fun J H1 => ∃ W : Nat → Nat → List V → St → Hp → Prop,(∃ m,W 0 m [] (stIn ix σ) H1) ∧ ∀ i m ys σ' H',W i m ys σ' H' →
  (J.stop i H' ∧ ∀ D,H' D = none → Q (.ref D) (upd H' D (.lst ys))) ∨
  (J.go i H' ∧ ys.length < sizeLine ∧ ∃ N : List V → St → Hp → Prop,(∀ ys' σ2 H2,N ys' σ2 H2 → ∃ m',m' < m ∧ W (i + 1) m' ys' σ2 H2) ∧
    ∀ x H2,J.yld i H' x H2 → g x σ' H2 fun σ3 H3 => tt σ3 H3 fun b H4 => if b = true then te σ3 H4 fun y H5 => N (ys ++ [y]) σ3 H5 else N ys σ3 H4)
section
variable {X : Cx} {N' : List Str} {ix : List (Option Nat)} {scope : Scope} {pins : List (Addr × Obj)} {σ : St} {H2 : Hp} {s2 : Shared} {tg elt iter : Expr} {ifs : List Expr} {pos : Pos} {g : TG} {tt : TT} {te : TE}
theorem lc_block {J : It} {fp : List Addr} {it : Addr} {tn : Nat → Heap → Prop} {Q : VK} {E : Value → Shared → Prop} {W : Nat → Nat → List V → St → Hp → Prop} {m0 : Nat} {RR : Value → Addr → Result → Shared → Prop} (hc : X.calm = true)
    (S : LcScope X N' ix scope) (I2 : Inv X pins σ H2 s2) (T : Turn X.prog X.w X.K tg J fp it tn) (st2 : tn 0 s2.heap) (f2 : ∀ b ∈ fp,FpOk X pins H2 b) (w0 : W 0 m0 [] (stIn ix σ) H2)
    (turn : ∀ i m ys σ' H',W i m ys σ' H' → (J.stop i H' ∧ ∀ D,H' D = none → Q (.ref D) (upd H' D (.lst ys))) ∨
      (J.go i H' ∧ ys.length < sizeLine ∧ ∃ N : List V → St → Hp → Prop,(∀ ys' σ2 H2,N ys' σ2 H2 → ∃ m',m' < m ∧ W (i + 1) m' ys' σ2 H2) ∧
        ∀ x H2,J.yld i H' x H2 → g x σ' H2 fun σ3 H3 => tt σ3 H3 fun b H4 => if b = true then te σ3 H4 fun y H5 => N (ys ++ [y]) σ3 H5 else N ys σ3 H4))
    (hg : ∀ cl C s H fp,PG (compCx X N' scope cl C s H fp) tg g) (ht : ∀ cl C s H fp,PTs (compCx X N' scope cl C s H fp) ifs tt) (he : ∀ cl C s H fp,PE (compCx X N' scope cl C s H fp) elt te)
    (hRR : ∀ D C s5 ys H',Inv X pins σ (upd H' D (.lst ys)) s5 → (∃ m,s5.heap.Ns C m) → FpOk X pins (upd H' D (.lst ys)) C → Q (.ref D) (upd H' D (.lst ys)) → RR (.ref D) C (.ok .next) s5) :
    wpAny (model X.prog X.w) X.A (newList []) (fun acc s₃ => wpAny (model X.prog X.w) X.A (newFunctionEnv scope X.env.globals (clos X.env scope.names []) [] X.env.qual none .none (some X.env)) (fun cenv s₄ =>
      codeAny (model X.prog X.w) X.A (.compStart (.ListComp elt [⟨tg,iter,ifs,0⟩] scope pos) 0 (.ref it) acc { cenv with scope := relabel scope X.env }) (RR acc cenv.locals) s₄) E s₃) E s2 := by
  refine wpAny_newObj_type (wpAny_newFunctionEnv S.nocell (by intro y hy; simp at hy) (fun h₁ hns₁ hsb₁ => ?_) S.kind)
  dsimp only at hns₁ hsb₁ ⊢
  generalize hH2 : s2.heap.push { cls := .type "list",dict := none,data := .seq ([] : List Value).toArray } = G2 at hns₁ hsb₁ ⊢
  have hC : G2.objs.size = s2.heap.objs.size + 1 := by rw [← hH2,Heap.size_push]
  have hDC : s2.heap.objs.size ≠ G2.objs.size := by rw [hC]; exact Nat.ne_of_lt (Nat.lt_succ_self _)
  have hCle : s2.heap.objs.size ≤ G2.objs.size := by rw [hC]; exact Nat.le_succ _
  have below : ∀ b,b < s2.heap.objs.size → b ≠ G2.objs.size ∧ b ≠ s2.heap.objs.size := fun b hb => ⟨by rw [hC]; exact Nat.ne_of_lt (Nat.lt_succ_of_lt hb),Nat.ne_of_lt hb⟩
  have old : ∀ b o,s2.heap.get? b = some o → h₁.get? b = some o := fun b o e => hsb₁.extBut b o (below b (Heap.lt_size e)).1 (Heap.get?_push_of_some _ (hH2 ▸ Heap.get?_push_of_some _ e))
  have hacc : h₁.get? s2.heap.objs.size = some (LCg.lst []) := hsb₁.extBut _ _ hDC (Heap.get?_push_of_some _ (hH2 ▸ Heap.get?_push_size _ rfl))
  have hfb : ∀ b ∈ fp,b < s2.heap.objs.size := fun b hb => by obtain ⟨o,e,_⟩ := T.obj _ _ st2 b hb; exact Heap.lt_size e
  generalize hD : s2.heap.objs.size = D at hDC hacc ⊢
  generalize hCg : G2.objs.size = C at hns₁ hDC ⊢
  have hDle : s2.heap.objs.size ≤ D := by rw [hD]; exact Nat.le_refl _
  have hCle' : s2.heap.objs.size ≤ C := by rw [← hCg]; exact hCle
  have belowD : ∀ b o,s2.heap.get? b = some o → b ≠ D := fun b o e => by rw [← hD]; exact (below b (Heap.lt_size e)).2
  have belowC : ∀ b o,s2.heap.get? b = some o → b ≠ C := fun b o e => by rw [← hCg]; exact (below b (Heap.lt_size e)).1
  let X' : Cx := compCx X N' scope (clos X.env scope.names []) C s2 H2 fp
  have hX' : X' = compCx X N' scope (clos X.env scope.names []) C s2 H2 fp := rfl
  have sub : ∀ x c,(clos X.env scope.names []).lookup x = some c → X.env.cells.lookup x = some c := fun x c h => clos_sub (acc:=[]) (fun _ _ z => by simp at z) h
  have pinOk : ∀ {H' : Hp} {h : Heap} {yv : List Value},H' D = none → h.get? D = some (LCg.lst yv) → ∀ p ∈ [(D,LCg.lst yv)],h.get? p.1 = some p.2 ∧ H' p.1 = none ∧ p.1 ≠ X'.env.locals ∧ p.1 ∉ X'.fs ∧ ∀ v,p.2.data ≠ .cell v := fun {H' h yv} hn hg p hp => by
    have e : p = (D,LCg.lst yv) := by simpa using hp
    subst e
    refine ⟨hg,hn,hDC,fun z => ?_,fun v z => by cases z⟩
    rcases List.mem_cons.mp (I2.stkSub D z) with q | q
    · exact absurd I2.lt (by rw [← q]; exact Nat.not_lt.mpr hDle)
    · exact I2.nofs hDle q
  have I4 : Inv X' [(D,LCg.lst [])] (stIn ix σ) H2 { s2 with heap := h₁,toks := s2.toks + ([] : List (Str × Value)).length } :=
    (inv_comp S I2 f2 hfb hCle' hns₁ old).pins_of (pinOk (I2.hok.fresh hDle) hacc)
  have stat : ∀ {H' : Hp} {pl : List (Addr × Obj)},(∀ p ∈ pl,p.1 = D) → (∀ b ∈ fp,H' b = none) → ∀ b ∈ fp,FpOk X' pl H' b := fun {H' pl} hpl hn b hb => by
    refine ⟨hn b hb,fun z => ?_,fun z => ?_,.inl hb,fun x c e => (f2 b hb).2.2.2.2.1 x c (sub x c e),fun p hp z => ?_⟩
    · have z' : b = C := z
      exact absurd (hfb b hb) (by rw [z']; exact Nat.not_lt.mpr hCle')
    · rcases List.mem_cons.mp (I2.stkSub b z) with q | q
      · exact (f2 b hb).2.1 q
      · exact (f2 b hb).2.2.1 q
    · have hp' : p ∈ ([] : List (Addr × Obj)) ++ pl := hp
      rw [List.nil_append] at hp'
      exact absurd (hfb b hb) (by rw [← z,hpl p hp']; exact Nat.not_lt.mpr hDle)
  have one : ∀ {yv : List Value},∀ p ∈ [(D,LCg.lst yv)],p.1 = D := fun {yv} p hp => by
    have e : p = (D,LCg.lst yv) := by simpa using hp
    rw [e]
  have loop : ∀ s₃ : Shared,s₃ = { s2 with heap := h₁,toks := s2.toks + ([] : List (Str × Value)).length } →
      codeAny (model X.prog X.w) X.A (.compLoop (.ListComp elt [⟨tg,iter,ifs,0⟩] scope pos) 0 (.ref it) (.ref D) (compEnvC scope (clos X.env scope.names []) C X.env)) (RR (.ref D) C) s₃ := by
    rintro s₃ rfl
    refine codeAny_compLoop_go
      (fun n s' => ∃ i ys yv σ' H',Inv X' [(D,LCg.lst yv)] σ' H' s' ∧ Vals ys yv ∧ ys.length ≤ sizeLine ∧ tn i s'.heap ∧ (∀ b ∈ fp,H' b = none) ∧ W i n ys σ' H') ?_ m0
      ⟨0,[],[],stIn ix σ,H2,I4,.nil,Nat.zero_le _,T.keep _ _ _ st2 fun b _ o e => old b o e,fun b hb => (f2 b hb).1,w0⟩
    rintro n s3 ⟨i,ys,yv,σ3,H3,I3,ry,hy,st3,fr3,w3⟩
    rcases turn i n ys σ3 H3 w3 with ⟨stop,qn⟩ | ⟨go,hlt,N,hN,step⟩
    · refine thn (T.done X' rfl rfl rfl hc i _ s3 σ3 H3 X'.xe I3 (stat one fr3) st3 stop) fun r s4 ⟨hr,I4⟩ => ?_
      subst hr
      have pD := I4.pin (D,LCg.lst yv) (List.mem_append_right _ List.mem_cons_self)
      have gD : s4.heap.get? D = some (LCg.lst yv) := pD.1
      have nD : H3 D = none := pD.2.1
      have hq := qn D nD
      have un : Un (frs X.stack) fp H2 (upd H3 D (.lst ys)) s2.heap s4.heap := by
        have u := I4.base
        refine ⟨u.keep,u.slot,fun b o e n hx => ?_,u.there,fun b xs e => ?_,fun b o xs e => ?_,fun b ps e => ?_⟩
        · rw [upd_ne (belowD b o e)]; exact u.free b o e n hx
        · rw [upd_ne (Nat.ne_of_lt (Nat.lt_of_lt_of_le (I2.hok.lt e) hDle))]; exact u.tups b xs e
        · rw [upd_ne (Nat.ne_of_lt (Nat.lt_of_lt_of_le (I2.hok.lt e) hDle))]; exact u.frzs b o xs e
        · rw [upd_ne (Nat.ne_of_lt (Nat.lt_of_lt_of_le (I2.hok.lt e) hDle))]; exact u.tbls b ps e
      have hok : HOk X.prog X.w (upd H3 D (.lst ys)) s4.heap := fun b u e => by
        by_cases hb : b = D
        · subst hb
          rw [upd_same] at e; cases e
          exact ⟨hy,yv,yv.length,ry,gD⟩
        · rw [upd_ne hb] at e
          exact (I4.hok b u e).stay (fun c v _ q => q) (fun c q => by rw [upd_ne (ne_of_none q nD)]; exact q) fun c xs q => by rw [upd_ne (ne_of_none q nD)]; exact q
      have I5 : Inv X pins σ (upd H3 D (.lst ys)) s4 := I2.call' I4.os un hok I4.bare fun b hb => ⟨(f2 b hb).2.2.2.1,(f2 b hb).2.1,(f2 b hb).2.2.2.2.1,(f2 b hb).2.2.2.2.2⟩
      obtain ⟨m,hn,_⟩ := I4.loc
      exact hRR D C s4 ys H3 I5 ⟨m,hn⟩ (I2.fpOk hCle' (by rw [upd_ne (Ne.symm hDC)]; exact I4.free)) hq
    · refine thn (T.item X' rfl rfl rfl hc i _ s3 σ3 H3 X'.xe I3 (stat one fr3) st3 go) fun r s4 ⟨u,hr,h4⟩ => ?_
      subst hr
      refine thn h4 fun _ s5 ⟨x,H5,I5,r5,y5,st5,fr5⟩ => ?_
      have I5' := I5.pinned (stat one fr5) (T.obj _ _ st5)
      refine thn (hg _ _ _ _ _ _ s5 σ3 H5 x u _ I5' r5 (step x H5 y5)) fun _ s6 ⟨σ6,H6,I6,q6⟩ => ?_
      refine thn (ht _ _ _ _ _ _ s6 σ6 H6 _ I6 q6) fun ok s7 ⟨H7,I7,q7⟩ => ?_
      have back : ∀ {σ8 : St} {H8 : Hp} {s8 : Shared},Inv X' ([(D,LCg.lst yv)] ++ pinsAt fp s5.heap) σ8 H8 s8 → tn (i + 1) s8.heap ∧ ∀ b ∈ fp,H8 b = none := fun {σ8 H8 s8} I8 => by
        refine ⟨T.keep _ _ _ st5 fun b hb o e => (I8.pin (b,o) (List.mem_append_right _ (List.mem_append_right _ (mem_pinsAt hb e)))).1,fun b hb => ?_⟩
        obtain ⟨o,e,d⟩ := T.obj _ _ st5 b hb
        exact (I8.pin (b,o) (List.mem_append_right _ (List.mem_append_right _ (mem_pinsAt hb e)))).2.1
      cases ok with
      | false =>
        rw [if_neg Bool.false_ne_true] at q7 ⊢
        obtain ⟨m',hm,w7⟩ := hN _ _ _ q7
        exact ⟨m',hm,i + 1,ys,yv,σ6,H7,I7.unpinned,ry,hy,(back I7).1,(back I7).2,w7⟩
      | true =>
        rw [if_pos rfl] at q7 ⊢
        refine thn (he _ _ _ _ _ _ s7 σ6 H7 _ I7 q7) fun yu s8 ⟨y,H8,I8,r8,q8⟩ => ?_
        obtain ⟨m',hm,w8⟩ := hN _ _ _ q8
        have pD := I8.pin (D,LCg.lst yv) (List.mem_append_right _ (List.mem_append_left _ List.mem_cons_self))
        have gD : s8.heap.get? D = some (LCg.lst yv) := pD.1
        refine append_at (hsz:=by show yv.toArray.size ≤ sizeLine; rw [List.size_toArray,← ry.length]; exact hy) gD fun h9 hs9 hD9 => ?_
        have I8' : Inv X' [] σ6 H8 s8 := I8.pins_of fun p hp => absurd hp (by simp)
        have I9 : Inv X' [] σ6 H8 { s8 with heap := h9,toks := s8.toks } := I8'.turned (it:=D) (fun b o hb e => (hs9.2 b hb).trans e) pD.2.1 pD.2.2.1 (.inr hDle) (fun x c e z => by
          obtain ⟨v,q⟩ := I2.cell x c (sub x c e)
          exact absurd q.lt (by rw [z]; exact Nat.not_lt.mpr hDle)) fun p hp => absurd (show p ∈ ([] : List (Addr × Obj)) from hp) (by simp)
        have hD9' : h9.get? D = some (LCg.lst (yv ++ [yu])) := hD9.trans (congrArg some (LCg.lst_snoc yv yu))
        have b8 := back I8
        refine ⟨m',hm,i + 1,ys ++ [y],yv ++ [yu],σ6,H8,I9.pins_of (pinOk pD.2.1 hD9'),ry.append (.cons r8 .nil),by rw [List.length_append]; exact hlt,T.keep _ _ _ b8.1 fun b hb o e => (hs9.2 b fun z => ?_).trans e,b8.2,w8⟩
        exact absurd (hfb b hb) (by rw [z]; exact Nat.not_lt.mpr hDle)
  exact codeAny_compStart_list (loop _ rfl) (T.self _ 0 _ _ _ (T.keep _ _ _ st2 fun b _ o e => old b o e) (loop _ rfl))
theorem pe_lc {wi : TI} (hc : X.calm = true) (S : LcScope X N' ix scope) (hi : PI X tg iter wi) (hg : ∀ cl C s H fp,PG (compCx X N' scope cl C s H fp) tg g) (ht : ∀ cl C s H fp,PTs (compCx X N' scope cl C s H fp) ifs tt) (he : ∀ cl C s H fp,PE (compCx X N' scope cl C s H fp) elt te)
    (hs : ∀ x,foldedSetIterable iter X.env x = pure x := by intro _; rfl) : PE X (.ListComp elt [⟨tg,iter,ifs,0⟩] scope pos) (tLc wi ix g tt te) := by
  intro pins s σ H Q I h
  rw [eval_ListComp]
  refine wpAny_comprehension_free (use:=none) rfl hs (closureFor_eq (I.cells_of S)) S.kind S.names (thn (hi pins s σ H _ I h) fun v s1 h1 => thn h1 fun itv s2 h2 => ?_)
  obtain ⟨it,fp,tn,J,H2,e,I2,T,st2,f2,W,⟨m0,w0⟩,turn⟩ := h2
  subst e
  refine lc_block hc S I2 T st2 f2 w0 turn hg ht he fun D C s5 ys H' I5 hn hC q => ?_
  obtain ⟨m,hn⟩ := hn
  refine ⟨m,hn,fun h' hs' => ⟨.ref D,_,I5.turned (it:=C) (h':=h') (t':=s5.toks) (fun b o hb e => (hs'.2 b hb).trans e) hC.1 hC.2.1 hC.2.2.2.1 hC.2.2.2.2.1 hC.2.2.2.2.2,rfl,q⟩⟩
theorem ps_lcset {wi : TI} {i : Nat} {x : Str} {pos' spos : Pos} (hN : X.N.Nodup) (hix : X.N[i]? = some x) (hx : X.env.scope.names.lookup x = some .local) (hc : X.calm = true) (S : LcScope X N' ix scope) (hi : PI X tg iter wi)
    (hg : ∀ cl C s H fp,PG (compCx X N' scope cl C s H fp) tg g) (ht : ∀ cl C s H fp,PTs (compCx X N' scope cl C s H fp) ifs tt) (he : ∀ cl C s H fp,PE (compCx X N' scope cl C s H fp) elt te)
    (hsw : swapsWith (.ListComp elt [⟨tg,iter,ifs,0⟩] scope pos) (some (.Name x pos')) spos.line X.env = pure true := by rfl)
    (hs : ∀ x,foldedSetIterable iter X.env x = pure x := by intro _; rfl) : PS X (.Assign [.Name x pos'] (.ListComp elt [⟨tg,iter,ifs,0⟩] scope pos) spos) (tAsg (tLc wi ix g tt te) (gName i)) := by
  intro pins s σ H D0 I h
  rw [exec_Assign_Name_used _ _ _ _ hsw]
  refine wpAny_bind (wpAny_standAt (wpAny_bind ?_))
  show wpAny _ X.A (do let _ ← comprehension (.ListComp elt [⟨tg,iter,ifs,0⟩] scope pos) scope X.env _ (newList []) false (eval iter X.env) (some (assign (.Name x pos') X.env))) _ _ s
  refine wpAny_bind (wpAny_mono (wpAny_comprehension_free (use:=some (assign (.Name x pos') X.env)) (Q:=fun _ s' => SP X pins D0 .next s') rfl hs (closureFor_eq (I.cells_of S)) S.kind S.names
    (thn (hi pins s σ H _ I h) fun v s1 h1 => thn h1 fun itv s2 h2 => ?_)) (fun _ s' hq => wpAny_pure (wpAny_pure hq)) fun _ _ e => e)
  obtain ⟨it,fp,tn,J,H2,e,I2,T,st2,f2,W,⟨m0,w0⟩,turn⟩ := h2
  subst e
  refine lc_block (Q:=fun x H1 => gName i x σ H1 D0.nx) hc S I2 T st2 f2 w0 turn hg ht he fun D C s5 ys H' I5 hn hC q => ?_
  obtain ⟨m,hn⟩ := hn
  show wpAny _ X.A (assign (.Name x pos') X.env (.ref D)) _ _ _
  refine wpAny_assign_Name (store_ok2 I5 hN hix (.inl hx) (v:=.ref D) rfl (fun s6 I6 ⟨a,hsb,ha⟩ => ?_) (.inr hx))
  have hCa : C ≠ a := by
    rcases ha with rfl | ha
    · exact hC.2.1
    · exact (hC.2.2.2.2.1 x a ha).symm
  refine ⟨m,hn.sameBut hsb hCa,fun h' hs' => ⟨_,_,I6.turned (it:=C) (h':=h') (t':=s6.toks) (fun b o hb e => (hs'.2 b hb).trans e) hC.1 hC.2.1 hC.2.2.2.1 hC.2.2.2.2.1 hC.2.2.2.2.2,q⟩⟩
end
def LcRun (J : It) (g : TG) (tt : TT) (te : TE) (Q : VK) (σ0 : St) (H : Hp) : Prop := ∃ W : Nat → Nat → List V → St → Hp → Prop,(∃ m,W 0 m [] σ0 H) ∧ ∀ i m ys σ' H',W i m ys σ' H' →
  (J.stop i H' ∧ ∀ D,H' D = none → Q (.ref D) (upd H' D (.lst ys))) ∨
  (J.go i H' ∧ ys.length < sizeLine ∧ ∃ N : List V → St → Hp → Prop,(∀ ys' σ2 H2,N ys' σ2 H2 → ∃ m',m' < m ∧ W (i + 1) m' ys' σ2 H2) ∧
    ∀ x H2,J.yld i H' x H2 → g x σ' H2 fun σ3 H3 => tt σ3 H3 fun b H4 => if b = true then te σ3 H4 fun y H5 => N (ys ++ [y]) σ3 H5 else N ys σ3 H4)
theorem lc_list {K : PySem.W.Frag} {a : Addr} {xs : List V} {g : TG} {tt : TT} {te : TE} {σ0 : St} {H : Hp} {Q : VK} (Pv : Nat → List V → St → Hp → Prop) (hz : xs.length ≤ sizeLine) (h0 : Pv 0 [] σ0 H) (hl : ∀ i ys σ H,i ≤ xs.length → Pv i ys σ H → SqL K H a xs ∧ ys.length ≤ i)
    (hs : ∀ i x ys σ H,xs[i]? = some x → Pv i ys σ H → g x σ H fun σ3 H3 => tt σ3 H3 fun b H4 => if b = true then te σ3 H4 fun y H5 => Pv (i + 1) (ys ++ [y]) σ3 H5 else Pv (i + 1) ys σ3 H4)
    (hd : ∀ ys σ H,Pv xs.length ys σ H → ∀ D,H D = none → Q (.ref D) (upd H D (.lst ys))) : LcRun (Itl K a) g tt te Q σ0 H := by
  refine ⟨fun i m ys σ H => m = xs.length - i ∧ i ≤ xs.length ∧ Pv i ys σ H,⟨xs.length,by simp,Nat.zero_le _,h0⟩,?_⟩
  rintro i m ys σ H ⟨rfl,hi,p⟩
  obtain ⟨q,ql⟩ := hl i ys σ H hi p
  by_cases hlt : i < xs.length
  · refine .inr ⟨⟨xs,xs[i],q,by simp [hlt]⟩,by omega,Pv (i + 1),fun ys' σ' H' p' => ⟨xs.length - (i + 1),by omega,rfl,hlt,p'⟩,fun x H' y => ?_⟩
    obtain ⟨e,y⟩ := y
    subst e
    exact hs i x ys σ _ (y xs q) p
  · have e : i = xs.length := by lia
    subst e
    exact .inl ⟨⟨xs,q,Nat.le_refl _⟩,hd ys σ H p⟩
theorem lc_range {lo : Int} {n : Nat} {g : TG} {tt : TT} {te : TE} {σ0 : St} {H : Hp} {Q : VK} (Pv : Nat → List V → St → Hp → Prop) (hz : n ≤ sizeLine) (h0 : Pv 0 [] σ0 H) (hl : ∀ i ys σ H,i ≤ n → Pv i ys σ H → ys.length ≤ i)
    (hs : ∀ i ys σ H,i < n → Pv i ys σ H → g (.int (lo + i)) σ H fun σ3 H3 => tt σ3 H3 fun b H4 => if b = true then te σ3 H4 fun y H5 => Pv (i + 1) (ys ++ [y]) σ3 H5 else Pv (i + 1) ys σ3 H4)
    (hd : ∀ ys σ H,Pv n ys σ H → ∀ D,H D = none → Q (.ref D) (upd H D (.lst ys))) : LcRun (Itr lo n) g tt te Q σ0 H := by
  refine ⟨fun i m ys σ H => m = n - i ∧ i ≤ n ∧ Pv i ys σ H,⟨n,by simp,Nat.zero_le _,h0⟩,?_⟩
  rintro i m ys σ H ⟨rfl,hi,p⟩
  have ql := hl i ys σ H hi p
  by_cases hlt : i < n
  · refine .inr ⟨hlt,by omega,Pv (i + 1),fun ys' σ' H' p' => ⟨n - (i + 1),by omega,rfl,hlt,p'⟩,fun x H' y => ?_⟩
    obtain ⟨e,y⟩ := y
    subst e y
    exact hs i ys σ _ hlt p
  · have e : i = n := by lia
    subst e
    exact .inl ⟨Nat.le_refl _,hd ys σ H p⟩
end L2
set_option Elab.async false
set_option maxRecDepth 100000
set_option maxHeartbeats 4000000
namespace L2
open PySem PySem.Spec PyProof.Rows
theorem ObjOk.there {P : Program} {w : World} {H : Hp} {h : Heap} {a : Addr} {o : HO} (x : ObjOk P w H h a o) : ∃ ob,h.get? a = some ob := by
  cases o with
  | lst xs => obtain ⟨_,_,_,_,e⟩ := x; exact ⟨_,e⟩
  | tup xs => obtain ⟨_,_,_,o,e,_⟩ := x; exact ⟨o,e⟩
  | dK kvs => obtain ⟨_,_,_,_,o,_,_,e,_⟩ := x; exact ⟨o,e⟩
  | dT kvs => obtain ⟨_,_,_,_,o,_,_,e,_⟩ := x; exact ⟨o,e⟩
  | set S n => obtain ⟨o,_,_,_,e,_⟩ := x; exact ⟨o,e⟩
  | ins C dx fs => obtain ⟨_,_,_,e,_⟩ := x; exact ⟨_,e⟩
  | own y => exact x
  | xd fs => obtain ⟨_,⟨o,_,_,e,_⟩,_⟩ := x; exact ⟨o,e⟩
  | rng lo hi => obtain ⟨_,_,_,e⟩ := x; exact ⟨_,e⟩
  | frz ob u => obtain ⟨e,_⟩ := x; exact ⟨ob,e⟩
  | tbl ps => exact ⟨_,x⟩
  | met f y => exact ⟨_,x⟩
  | ext φ => obtain ⟨_,e,_⟩ := x; exact e
structure Fly (P : Program) (w : World) (l : List Env) (H H' : Hp) (h : Heap) (e : Addr) (cls : Value) (h' B : Heap) (t : Addr) : Prop where
  fly : Heap.FlyingW B l e cls (.ref t) h'
  keep : ∀ b o,h.get? b = some o → H b = none → b ∉ frs l → B.get? b = some o
  there : ∀ b o,h.get? b = some o → b ∉ frs l → ∃ o',B.get? b = some o'
  slot : ∀ b o,h.get? b = some o → b ∈ frs l → ∃ sl,h'.get? b = some { o with slots := sl }
  free : ∀ b o,h.get? b = some o → H b = none → H' b = none
  tups : ∀ b xs,H b = some (.tup xs) → H' b = some (.tup xs)
  frzs : ∀ b o u,H b = some (.frz o u) → H' b = some (.frz o u)
  tbls : ∀ b ps,H b = some (.tbl ps) → ∃ more,H' b = some (.tbl (ps ++ more))
  hok : HOk P w H' B
def CX1 (P : Program) (w : World) : CXT := fun outer H s E e s' => ∃ a cls H' B t,e = .ref a ∧ s'.os = s.os ∧ AllBare s'.gens ∧ Fly P w outer H H' s.heap a cls s'.heap B t ∧ E cls none H'
section
variable {P : Program} {w : World} {l : List Env} {H H' : Hp} {h h' B : Heap} {e t : Addr} {cls : Value}
theorem Fly.new (F : Fly P w l H H' h e cls h' B t) (hl : ∀ b ∈ frs l,∃ o,h.get? b = some o) : h.get? e = none := by
  cases q : h.get? e with
  | none => rfl
  | some o =>
    exfalso
    by_cases hm : e ∈ frs l
    · obtain ⟨_,o',ho',hd⟩ := F.fly.2.2.1.mem hm
      obtain ⟨oe,vs,he,_,hdd,_⟩ := F.fly.first
      rw [he] at ho'; cases ho'
      exact hd vs hdd
    · obtain ⟨o',e'⟩ := F.there e o q hm
      rw [F.fly.2.1] at e'; cases e'
theorem Fly.un (F : Fly P w l H H' h e cls h' B t) : Un (frs l) [] H H' h h' where
  keep := fun b o q n hb _ => F.fly.1 b o (F.keep b o q n hb)
  slot := fun b o q n hb _ => F.slot b o q hb
  free := fun b o q n _ => F.free b o q n
  there := fun b o q _ => by
    by_cases hb : b ∈ frs l
    · obtain ⟨sl,z⟩ := F.slot b o q hb; exact ⟨_,z⟩
    · obtain ⟨o',z⟩ := F.there b o q hb; exact ⟨o',F.fly.1 b o' z⟩
  tups := F.tups
  frzs := F.frzs
  tbls := F.tbls
end
section
variable {CX : CXT} {P : Program} {w : World} {K : PySem.W.Frag} {mg : Str → Option Value} {base : Heap} {N : List Str} {qual : Str} {scope : Scope} {f : Addr} {cd : Value} {A : Around} {outer : List Env} {s0 : Shared} {H0 : Hp} {E : XK}
def Raises (X : Cx) (E : XK) : Prop := ∀ (pins : List (Addr × Obj)) (σ : St) (H : Hp) (s : Shared) (e C : Addr) (h' : Heap) (vs : List Value),Inv X pins σ H s → Heap.MadeExcOf s.heap h' e (.ref C) vs → E (.ref C) none H → X.xe (.ref e) { s with heap := h' }
theorem raises_cx : Raises (cxOf (CX1 P w) P w K mg base N qual scope f cd A outer s0 H0 E) E := by
  intro pins σ H s e C h' vs I hm hE
  have hfr : (cxOf (CX1 P w) P w K mg base N qual scope f cd A outer s0 H0 E).A.frames = some (envOfC qual scope s0.heap.objs.size f cd :: outer) := I.ok.frames
  have nost : ∀ b u,H b = some u → b ∉ frs (envOfC qual scope s0.heap.objs.size f cd :: outer) := fun b u q z => by
    have := I.stkFree b z
    rw [this] at q; cases q
  have hB : ∀ b o,s.heap.get? b = some o → b ∉ frs (envOfC qual scope s0.heap.objs.size f cd :: outer) → (PySem.W.hideAll s.heap (frs (envOfC qual scope s0.heap.objs.size f cd :: outer))).get? b = some o := fun b o q n => PySem.W.hideAll_get _ q n
  have hokB : HOk P w H (PySem.W.hideAll s.heap (frs (envOfC qual scope s0.heap.objs.size f cd :: outer))) := fun b u q =>
    (I.hok b u q).stay (fun c v hc z => hB c v z (by
      rcases hc with rfl | hc
      · exact nost _ _ q
      · exact nost _ _ hc)) (fun _ z => z) fun _ _ z => z
  have outer_of : ∀ b,b ∉ frs outer → ∀ o,s0.heap.get? b = some o → b ∉ frs (envOfC qual scope s0.heap.objs.size f cd :: outer) := fun b nb o q z => by
    rcases List.mem_cons.mp (I.stkSub b z) with z | z
    · have : s0.heap.objs.size ≤ b := by rw [z]; exact I.ok.above
      exact absurd (Nat.lt_of_lt_of_le (Heap.lt_size q) this) (Nat.lt_irrefl _)
    · exact nb z
  show wpAny _ _ (leaving _ (.ref e)) _ _ _
  refine wpAny_leaves_madeW (base:=PySem.W.hideAll s.heap (frs (envOfC qual scope s0.heap.objs.size f cd :: outer))) hfr rfl (fun b o q => PySem.W.of_hideAll _ q)
    (PySem.W.funFrames_hide I.stack fun env he b hb => List.mem_filterMap.mpr ⟨env,he,hb⟩) hm fun h'' t x1 x2 x3 x4 => ?_
  refine ⟨e,.ref C,H,_,t,rfl,I.os,I.bare,⟨x1,fun b o q n nb => ?_,fun b o q nb => ?_,fun b o q hb => ?_,fun b o q n => ?_,I.base.tups,I.base.frzs,I.base.tbls,hokB⟩,hE⟩
  · exact hB b o (I.base.keep b o q n nb (by simp [cxOf])) (outer_of b nb o q)
  · obtain ⟨o',z⟩ := I.base.there b o q (by simp [cxOf])
    exact ⟨o',hB b o' z (outer_of b nb o q)⟩
  · have n : H0 b = none := I.ok.frf b hb
    obtain ⟨sl,z⟩ := I.base.slot b o q n hb (by simp [cxOf])
    obtain ⟨_,o1,ho1,hd1⟩ := I.ok.funs.mem hb
    have q' : (cxOf (CX1 P w) P w K mg base N qual scope f cd A outer s0 H0 E).s₀.heap.get? b = some o := q
    rw [q'] at ho1; cases ho1
    obtain ⟨sl',z'⟩ := x4 b _ (hm.keeps b _ z) hd1
    exact ⟨sl',z'⟩
  · exact I.base.free b o q n (by simp [cxOf])
theorem passes_cx {E' : XK} (hE : ∀ c d H,E' c d H → E c d H) : Passes (CX1 P w) (cxOf (CX1 P w) P w K mg base N qual scope f cd A outer s0 H0 E) E' := by
  intro pins σ H s e s' I hx
  obtain ⟨a,cls,H',B,t,rfl,os,bare,F,q⟩ := hx
  have hfr : (cxOf (CX1 P w) P w K mg base N qual scope f cd A outer s0 H0 E).A.frames = some (envOfC qual scope s0.heap.objs.size f cd :: outer) := I.ok.frames
  have outer_of : ∀ b,b ∉ frs outer → ∀ o,s0.heap.get? b = some o → b ∉ frs (envOfC qual scope s0.heap.objs.size f cd :: outer) := fun b nb o q z => by
    rcases List.mem_cons.mp (I.stkSub b z) with z | z
    · have : s0.heap.objs.size ≤ b := by rw [z]; exact I.ok.above
      exact absurd (Nat.lt_of_lt_of_le (Heap.lt_size q) this) (Nat.lt_irrefl _)
    · exact nb z
  show wpAny _ _ (leaving _ (.ref a)) _ _ _
  refine wpAny_leaves_onW hfr rfl F.fly fun h'' x1 x2 => ?_
  refine ⟨a,cls,H',B,t,rfl,os.trans I.os,bare,⟨x1,fun b o q n nb => ?_,fun b o q nb => ?_,fun b o q hb => ?_,fun b o q n => ?_,fun b xs z => F.tups b xs (I.base.tups b xs z),fun b o xs z => F.frzs b o xs (I.base.frzs b o xs z),fun b ps z => ?_,F.hok⟩,hE _ _ _ q⟩
  · exact F.keep b o (I.base.keep b o q n nb (by simp [cxOf])) (I.base.free b o q n (by simp [cxOf])) (outer_of b nb o q)
  · obtain ⟨o',z⟩ := I.base.there b o q (by simp [cxOf])
    exact F.there b o' z (outer_of b nb o q)
  · have n : H0 b = none := I.ok.frf b hb
    obtain ⟨sl,z⟩ := I.base.slot b o q n hb (by simp [cxOf])
    have hb' : b ∈ frs (envOfC qual scope s0.heap.objs.size f cd :: outer) := by
      unfold frs
      rw [List.filterMap_cons]
      exact List.mem_cons_of_mem _ hb
    obtain ⟨sl',z'⟩ := F.slot b _ z hb'
    obtain ⟨_,o1,ho1,hd1⟩ := I.ok.funs.mem hb
    have q' : (cxOf (CX1 P w) P w K mg base N qual scope f cd A outer s0 H0 E).s₀.heap.get? b = some o := q
    rw [q'] at ho1; cases ho1
    obtain ⟨sl'',z''⟩ := x2 b _ z' hd1
    exact ⟨sl'',z''⟩
  · obtain ⟨o',z⟩ := I.base.there b o q (by simp [cxOf])
    exact F.free b o' z (I.base.free b o q n (by simp [cxOf]))
  · obtain ⟨m1,e1⟩ := I.base.tbls b ps z
    obtain ⟨m2,e2⟩ := F.tbls b _ e1
    exact ⟨m1 ++ m2,by rw [e2,Array.append_assoc]⟩
end
structure XCls (K : PySem.W.Frag) (mg : Str → Option Value) (x : Str) (C : Addr) : Prop where
  bound : mg x = some (.ref C)
  exc : PySem.W.excIn K C [.type "ValueError",.type "Exception",.type "BaseException",.type "object"] "ValueError.__new__" = true
theorem XCls.own {K : PySem.W.Frag} {mg : Str → Option Value} {x : Str} {C : Addr} {h : Heap} (c : XCls K mg x C) (X : K.In h) : OwnCls x C [.type "ValueError",.type "Exception",.type "BaseException",.type "object"] "ValueError.__new__" mg h := by
  refine ⟨c.bound,?_⟩
  have q := c.exc
  unfold PySem.W.excIn at q
  split at q
  · rename_i dd cd sl ho
    split at q
    · rename_i C' bm k0 k1 k2 k3 n k5 hm hs
      simp only [Bool.and_eq_true,beq_iff_eq,Bool.not_eq_true'] at q
      obtain ⟨⟨⟨⟨⟨rfl,rfl⟩,hdel⟩,ht⟩,hok⟩,hni⟩ := q
      obtain ⟨nm,bs,mro,ns,qn,hd,sn,sub,ab,col,del⟩ := cd
      dsimp only at hm hdel hok hni
      subst hm hdel
      have hsl : sl = #[k0,k1,k2,k3,some (.builtin "ValueError.__new__"),k5] := by
        obtain ⟨l⟩ := sl
        simp only at hs
        rw [hs]
      subst hsl
      exact ⟨bm,ns,nm,qn,bs,hd,sn,sub,ab,col,dd,k0,k1,k2,k3,k5,_,X _ _ ho,.of_isNs (PySem.W.isNs_of_in X hok),PySem.W.nsMap_none_of_in X hok hni,PySem.W.tail_of_in X ht⟩
    · cases q
  · cases q
section
variable {X : Cx}
def tRaise (C : Addr) (E : XK) (t : TA) : TS := fun _ σ H => t σ H fun vs H1 => vs.length ≤ sizeLine ∧ E (.ref C) none H1
theorem ps_raise {E : XK} {x : Str} {C : Addr} {e : Expr} {es : List Expr} {t : TA} {np cpos pos : Pos} (hR : Raises X E) (hc : X.calm = true) (c : XCls X.K X.mg x C) (hg : Gl X x) (ha : PA X (e :: es) t)
    (hdb : (x == ("__debug__" : Str)) = false := by decide) (he : starEach (e :: es) X.env = (false,eval e X.env) :: starEach es X.env := by rfl) (hplain : (backTo cpos (starEach es X.env)).any (·.1) = false := by rfl) :
    PS X (.Raise (some (.Call (.Name x np) (e :: es) [] cpos)) none pos) (tRaise C E t) := by
  intro pins s σ H D I h
  have O := c.own I.kIn
  obtain ⟨tl,Nn,nm,q,bs,hdct,sn,sub,ab,col,dd,k0,k1,k2,k3,k5,mN,hC,hN,hni,T⟩ := (c.own I.mod.kin).obj
  refine wpAny_Raise_call_subT (C:=C) (nm:=nm) (q:=q) (N:=Nn) (bs:=bs) (bm:=tl) (hdct:=hdct) (sn:=sn) (sub:=sub) (ab:=ab) (col:=col) (dd:=dd) (k0:=k0) (k1:=k1) (k2:=k2) (k3:=k3) (k5:=k5)
    PySem.F.excBase_ValueError (mN:=mN) (T.hasType PySem.F.excBase_ValueError.hasBase) (I.ok.hd hc) (by rw [he]; show (false || (backTo cpos (starEach es X.env)).any (·.1)) = false; rw [hplain]; rfl) hni (ld_glob I hg c.bound ⟨rfl,?_⟩ hdb)
  have hA := ha cpos pins s σ H _ I h
  rw [he] at hA ⊢
  refine Calls.evalArgs_plain (wpAny_mono hA (fun us s₂ h₂ => ?_) fun _ _ y => y)
  obtain ⟨vs,H1,I1,rv,hz,hE⟩ := h₂
  have kp := I1.bk
  exact ⟨rfl,by rw [← rv.length]; exact hz,kp _ _ hC,hN.keeps kp,T.keeps kp,fun h' e hm => hR pins σ H1 s₂ e C h' us I1 hm hE⟩
end
def ES (X : Cx) (pins : List (Addr × Obj)) (σ : St) (e : Expr) (t : TE) : Prop := ∀ (s : Shared) (H : Hp) (Q : VK),Inv X pins σ H s → t σ H Q → wpAny (model X.prog X.w) X.A (eval e X.env) (EP X pins σ Q) X.xe s
def SS (X : Cx) (pins : List (Addr × Obj)) (σ : St) (st : Stmt) (t : TS) : Prop := ∀ (s : Shared) (H : Hp) (D : Ends),Inv X pins σ H s → t D σ H → wpAny (model X.prog X.w) X.A (exec st X.env) (SP X pins D) X.xe s
def SSs (X : Cx) (pins : List (Addr × Obj)) (σ : St) (st : List Stmt) (t : TS) : Prop := ∀ (s : Shared) (H : Hp) (D : Ends),Inv X pins σ H s → t D σ H → wpAny (model X.prog X.w) X.A (execs st X.env) (SP X pins D) X.xe s
def PassAt (CX : CXT) (X : Cx) (pins : List (Addr × Obj)) (σ : St) (E : XK) : Prop := ∀ (H : Hp) (s : Shared) (e : Value) (s' : Shared),Inv X pins σ H s → CX X.stack H s E e s' → X.xe e s'
section
variable {X : Cx} {pins : List (Addr × Obj)} {σ : St} {CX : CXT} {k : Nat} {f C : Addr} {fd : FuncData} {ps : List Str} {sp : Sp} {E : XK} {x : Str} {p pos : Pos} {e : Expr} {es : List Expr} {t : TA}
theorem es_call (F : FnOk X.prog X.w X.K X.mg X.base CX k f fd ps sp) (hr : Room k X.A) (hg : Gl X x) (hm : X.mg x = some (.ref f)) (hk : PySem.W.keepIn X.K (.ref f) = true) (hb : Binds X.K fd ps []) (hx : PassAt CX X pins σ E)
    (ha : PA X (e :: es) t) (hdb : (x == ("__debug__" : Str)) = false := by decide) (he : starEach (e :: es) X.env = (false,eval e X.env) :: starEach es X.env := by rfl) (hpl : (backTo pos (starEach es X.env)).any (·.1) = false := by rfl) :
    ES X pins σ (.Call (.Name x p) (e :: es) [] pos) (tCall sp [] E t) := by
  intro s H Q I h
  refine wpAny_Call_Name_kw (ld_glob I hg hm ?_ hdb)
  refine PySem.W.callWith_K (h₀ := X.base) I.ok.mod.kin hk (thn (ha pos pins s σ H _ I h) fun us s1 ⟨vs,H1,I1,r,q⟩ => ⟨I1.kIn,?_⟩) he hpl
  have r2 : Vals (vs ++ []) (us ++ []) := r.append .nil
  have hl : (us ++ []).length = ps.length := by rw [← r2.length]; exact F.len _ _ _ _ q
  refine wpAny_call (codeAny_mono (F.run X.A X.stack s1 H1 ⟨us,[]⟩ (us ++ []) (vs ++ []) Q E hr I1.env0 (hb s1 us I1.kIn hl) r2 q) fun r s' hq => ?_)
  cases r with
  | error e => exact hx H1 s1 e s' I1 hq
  | ok fl =>
    cases fl with
    | ret u => exact I1.after hq
    | next => exact False.elim hq
    | brk => exact False.elim hq
    | cont => exact False.elim hq
theorem es_make (M : Mk X.K C f) (F : FnOk X.prog X.w X.K X.mg X.base CX k f fd ps sp) (hr : Room (k + 1) X.A) (hg : Gl X x) (hm : X.mg x = some (.ref C)) (hb : Binds X.K fd ps []) (hx : PassAt CX X pins σ E)
    (ha : PA X (e :: es) t) (hdb : (x == ("__debug__" : Str)) = false := by decide) (he : starEach (e :: es) X.env = (false,eval e X.env) :: starEach es X.env := by rfl) (hpl : (backTo pos (starEach es X.env)).any (·.1) = false := by rfl) :
    ES X pins σ (.Call (.Name x p) (e :: es) [] pos) (tMake C sp [] E t) := by
  intro s H Q I h
  refine wpAny_Call_Name_kw (ld_glob I hg hm ?_ hdb)
  refine PySem.W.callWith_K (h₀ := X.base) I.ok.mod.kin M.kp (thn (ha pos pins s σ H _ I h) fun us s1 ⟨vs,H1,I1,r,q⟩ => ⟨I1.kIn,?_⟩) he hpl
  have hq := q (s1.heap.objs.size + 1) s1.heap.objs.size (I1.hok.fresh (Nat.le_succ _)) (I1.hok.fresh (Nat.le_refl _)) (Nat.ne_of_lt (Nat.lt_succ_self _))
  have I2 := Inv.made (C:=C) I1
  have r2 : Vals (V.ref (s1.heap.objs.size + 1) :: (vs ++ [])) (Value.ref (s1.heap.objs.size + 1) :: (us ++ [])) := .cons rfl (r.append .nil)
  have hl : (Value.ref (s1.heap.objs.size + 1) :: us ++ []).length = ps.length := by
    have e := r2.length
    rw [F.len _ _ _ _ hq] at e
    exact e.symm
  refine wpAny_call (make_map (f:=f) I1.kIn M.makes M.init (beq_iff_eq.mp M.fn) (codeAny_mono (F.run _ X.stack _ _ ⟨Value.ref (s1.heap.objs.size + 1) :: us,[]⟩ (Value.ref (s1.heap.objs.size + 1) :: (us ++ [])) _ _ E (hr.make C us [])
    (I2.env0.make C us []) (by have z := hb _ (Value.ref (s1.heap.objs.size + 1) :: us) I2.kIn hl; rw [List.cons_append] at z; exact z) r2 hq) fun r s' hq' => ?_))
  cases r with
  | error e => exact hx _ _ e s' I2 hq'
  | ok fl =>
    cases fl with
    | ret u =>
      obtain ⟨v,H',I3,rv,ev,q3⟩ := I2.after hq'
      subst ev
      exact ⟨rv,⟨V.ref (s1.heap.objs.size + 1),H',I3,rfl,q3⟩⟩
    | next => exact False.elim hq'
    | brk => exact False.elim hq'
    | cont => exact False.elim hq'
def tIfA (c : TT) (t u : TS) : TS := fun D σ H => c σ H fun b H1 => if b = true then t D σ H1 else u D σ H1
theorem ss_if {c : Expr} {a b : List Stmt} {tc : TT} {ta tb : TS} (hc : PT X c tc) (ha : SSs X pins σ a ta) (hb : SSs X pins σ b tb) : SS X pins σ (.If c a b pos) (tIfA tc ta tb) := by
  intro s H D I h
  refine wpAny_If (thn (hc pins s σ H _ I h) fun k s1 ⟨H1,I1,q1⟩ => ?_)
  cases k with
  | true => exact ha s1 H1 D I1 q1
  | false => exact hb s1 H1 D I1 q1
theorem sss_one {st : Stmt} {t : TS} (h : SS X pins σ st t) : SSs X pins σ [st] t := by
  intro s H D I q
  refine wpAny_execs_cons (thn (h s H D I q) fun f s1 q => ?_)
  cases f with
  | next => exact wpAny_execs_nil q
  | ret v => exact q
  | brk => exact q
  | cont => exact q
end
def excAt (a : Addr) (cls : Value) : Heap → Prop := fun h => ∃ o vs,h.get? a = some o ∧ o.cls = cls ∧ o.data = .fields vs
abbrev Cx.held (X : Cx) (e : Addr) : Cx := { X with A := X.A.mark (some (.ref e)),calm := false,xe := fun _ _ => False }
section
variable {X : Cx} {pins : List (Addr × Obj)} {σ : St} {H H0 H' : Hp} {s s0 : Shared} {a t : Addr} {cls : Value} {B : Heap}
theorem Inv.held (I : Inv X pins σ H s) (e : Addr) : Inv (X.held e) pins σ H s :=
  ⟨⟨I.ok.mod,I.ok.kind,I.ok.glob,I.ok.blt,I.ok.above,I.ok.inj,I.ok.has,I.ok.cab,fun h => (by cases h),I.ok.frames,I.ok.stk,I.ok.exf,I.ok.bs,I.ok.bsz,I.ok.noex,I.ok.exfs,I.ok.funs,I.ok.frf⟩,I.os,I.bare,I.base,I.loc,I.cell,I.free,I.freeC,I.pin,I.hok,I.len⟩
theorem Inv.unheld {e : Addr} (I0 : Inv X pins σ H0 s0) {σ' : St} (I : Inv (X.held e) pins σ' H s) : Inv X pins σ' H s :=
  ⟨I0.ok,I.os,I.bare,I.base,I.loc,I.cell,I.free,I.freeC,I.pin,I.hok,I.len⟩
theorem Inv.blank (I : Inv X pins σ H s) {h' : Heap} {m' : Str → Option Value} {tk : Nat} (hn : h'.Ns X.env.locals m') (hs : Heap.SameBut X.env.locals s.heap h') : Inv X pins (List.replicate X.N.length none) H { s with heap := h',toks := tk } := by
  have neL : ∀ b o,X.s₀.heap.get? b = some o → b ≠ X.env.locals := fun b o e => Nat.ne_of_lt (Nat.lt_of_lt_of_le (Heap.lt_size e) I.ok.above)
  have neT : ∀ b u,H b = some u → b ≠ X.env.locals := fun b u e z => by rw [z,I.free] at e; cases e
  refine ⟨I.ok,I.os,I.bare,⟨fun b o e n hb hx => (hs.2 b (neL b o e)).trans (I.base.keep b o e n hb hx),fun b o e n hb hx => ?_,I.base.free,fun b o e hx => ?_,I.base.tups,I.base.frzs,I.base.tbls⟩,
    ⟨m',hn,fun i x v _ e2 _ => ?_⟩,fun x c e => ?_,I.free,I.freeC,fun p hp => ?_,fun b u e => ?_,by simp⟩
  · obtain ⟨sl,z⟩ := I.base.slot b o e n hb hx
    exact ⟨sl,(hs.2 b (neL b o e)).trans z⟩
  · obtain ⟨o',z⟩ := I.base.there b o e hx
    exact ⟨o',(hs.2 b (neL b o e)).trans z⟩
  · rw [List.getElem?_replicate] at e2
    split at e2 <;> cases e2
  · obtain ⟨v,z⟩ := I.cell x c e
    exact ⟨v,z.sameBut hs (I.cne x c e)⟩
  · obtain ⟨e,n,ne,nf,d⟩ := I.pin p hp
    exact ⟨(hs.2 p.1 ne).trans e,n,ne,nf,d⟩
  · refine (I.hok b u e).stay (fun c v hc q => (hs.2 c ?_).trans q) (fun _ q => q) fun _ _ q => q
    rcases hc with rfl | hc
    · exact neT _ _ e
    · exact neT _ _ hc
theorem Fly.inv (I0 : Inv X pins σ H0 s0) (F : Fly X.prog X.w X.stack H0 H' s0.heap a cls s.heap B t) (os : s.os = s0.os) (bare : AllBare s.gens) : Inv X pins σ H' s :=
  I0.call' os F.un (F.hok.kept F.fly.1) bare fun b hb => absurd hb (by simp)
theorem Fly.none (F : Fly X.prog X.w X.stack H0 H' s0.heap a cls s.heap B t) : H' a = Option.none := by
  cases q : H' a with
  | none => rfl
  | some u =>
    obtain ⟨o,e⟩ := (F.hok a u q).there
    rw [F.fly.2.1] at e; cases e
theorem Fly.invE (I0 : Inv X pins σ H0 s0) (F : Fly X.prog X.w X.stack H0 H' s0.heap a cls s.heap B t) (os : s.os = s0.os) (bare : AllBare s.gens) : Inv X pins σ (upd H' a (.ext (excAt a cls))) s := by
  have nw : s0.heap.get? a = Option.none := F.new fun b hb => by
    obtain ⟨_,o,ho,_⟩ := I0.stack.mem hb
    exact ⟨o,ho⟩
  have n0 : H0 a = Option.none := by
    cases q : H0 a with
    | none => rfl
    | some u =>
      obtain ⟨o,e⟩ := (I0.hok a u q).there
      rw [nw] at e; cases e
  have na := F.none
  have u := F.un
  have ne : ∀ b o,s0.heap.get? b = some o → b ≠ a := fun b o e z => by rw [z,nw] at e; cases e
  have neT : ∀ b o,H0 b = some o → b ≠ a := fun b o e => ne_of_none e n0
  refine I0.call' (s':=s) os (ch:=[]) ⟨u.keep,u.slot,fun b o e n hx => ?_,u.there,fun b xs e => ?_,fun b o xs e => ?_,fun b qs e => ?_⟩ (fun b o e => ?_) bare fun b hb => absurd hb (by simp)
  · rw [upd_ne (ne b o e)]; exact u.free b o e n hx
  · rw [upd_ne (neT b _ e)]; exact u.tups b xs e
  · rw [upd_ne (neT b _ e)]; exact u.frzs b o xs e
  · rw [upd_ne (neT b _ e)]; exact u.tbls b qs e
  · by_cases hb : b = a
    · subst hb
      rw [upd_same] at e; cases e
      obtain ⟨oe,vs,he,hc,hd,_⟩ := F.fly.first
      exact ⟨⟨oe,vs,he,hc,hd⟩,⟨oe,he⟩,fun h1 h2 ⟨o,ws,q,r⟩ k => ⟨o,ws,k o q,r⟩⟩
    · rw [upd_ne hb] at e
      exact (F.hok b o e).stay (fun c v _ q => F.fly.1 c v q) (fun c q => by rw [upd_ne (ne_of_none q na)]; exact q) fun c xs q => by rw [upd_ne (ne_of_none q na)]; exact q
theorem Fly.slots {h2 : Heap} (F : Fly X.prog X.w X.stack H0 H' s0.heap a cls s.heap B t) (x : Heap.FlyingW B X.stack a cls (.ref t) h2) (y : s.heap.UpToSlots h2) : Fly X.prog X.w X.stack H0 H' s0.heap a cls h2 B t :=
  ⟨x,F.keep,F.there,fun b o e hb => by
    obtain ⟨sl,z⟩ := F.slot b o e hb
    obtain ⟨_,o1,ho1,hd1⟩ := F.fly.2.2.1.mem hb
    have z' := z
    rw [ho1] at z'
    cases z'
    obtain ⟨sl',z''⟩ := y b _ z hd1
    exact ⟨sl',z''⟩,F.free,F.tups,F.frzs,F.tbls,F.hok⟩
end
abbrev TH := Value → Addr → Ends → St → Hp → Prop
def PHs (X : Cx) (hs : List ExceptHandler) (t : TH) : Prop :=
  ∀ (cls : Value) (a : Addr) (pins : List (Addr × Obj)) (s0 s : Shared) (σ : St) (H0 H' : Hp) (D : Ends) (B : Heap) (tt : Addr),Inv X pins σ H0 s0 → Fly X.prog X.w X.stack H0 H' s0.heap a cls s.heap B tt → s.os = s0.os → AllBare s.gens → t cls a D σ H' →
    wpAny (model X.prog X.w) X.A (handleBy (.ref a) X.env hs) (SP X pins D) X.xe s
def hNil : TH := fun _ _ _ _ _ => False
def hCons (K : PySem.W.Frag) (C : Addr) (i : Nat) (tb : TS) (rest : TH) : TH := fun cls a D σ H =>
  (PySem.W.exmOne K cls (.ref C) = some true ∧ tb { nx := fun _ _ => False,rt := D.rt } (σ.set i (some (.ref a))) (upd H a (.ext (excAt a cls)))) ∨ (PySem.W.exmOne K cls (.ref C) = some false ∧ rest cls a D σ H)
section
variable {X : Cx}
theorem phs_nil : PHs X [] hNil := fun _ _ _ _ _ _ _ _ _ _ _ _ _ _ _ h => h.elim
theorem phs_cons {x n : Str} {C : Addr} {i : Nat} {b₀ : Stmt} {suite : List Stmt} {tb : TS} {np pos : Pos} {rest : List ExceptHandler} {tr : TH} (hN : X.N.Nodup) (hi : X.N[i]? = some n) (hn : X.env.scope.names.lookup n = some .local) (hg : Gl X x) (hm : X.mg x = some (.ref C))
    (hb : ∀ a,PSs (X.held a) (b₀ :: suite) tb) (hr : PHs X rest tr) (hdb : (x == ("__debug__" : Str)) = false := by decide) :
    PHs X (.ExceptHandler (some (.Name x np)) (some n) (b₀ :: suite) pos :: rest) (hCons X.K C i tb tr) := by
  intro cls a pins s0 s σ H0 H' D B tt I0 F os bare h
  have I1 := F.inv I0 os bare
  have Ih := I1.held a
  obtain ⟨oe,vs,he,hc,hd,_⟩ := F.fly.first
  have LT : PySem.W.Looks (model X.prog X.w) s.heap (typeOf (.ref a)) cls := by rw [← hc]; exact (PySem.W.Looks.ld he).andThen .now
  refine wpAny_handleBy_cons (codeAny_handlers_test (ld_glob (E:=_) Ih hg hm ?_ hdb)) (by intro q; cases q)
  rcases h with ⟨hx,h⟩ | ⟨hx,h⟩
  · refine (PySem.W.exm_one (M:=model X.prog X.w) I1.kIn LT hx).here ?_
    refine codeAny_handlers_suite_as ?_
    refine lands_againW F.fly fun h₆ hfl₆ hsm₆ => ?_
    have F6 : Fly X.prog X.w X.stack H0 H' s0.heap a cls h₆ B tt := F.slots hfl₆ hsm₆
    have I6 : Inv X pins σ (upd H' a (.ext (excAt a cls))) { s with heap := h₆ } := Fly.invE (s:={ s with heap := h₆ }) I0 F6 os bare
    have I6h := I6.held a
    refine store_ok (X:=X.held a) I6h hN hi (.inl hn) (v:=.ref a) rfl (fun s7 I7 => ?_) (.inr hn)
    refine wpAny_mono (hb a pins s7 _ _ _ I7 h) (fun f s8 q8 => ?_) fun _ _ z => z.elim
    cases f with
    | next => obtain ⟨_,_,_,z⟩ := q8; exact z.elim
    | brk => obtain ⟨_,_,_,z⟩ := q8; exact z.elim
    | cont => obtain ⟨_,_,_,z⟩ := q8; exact z.elim
    | ret u =>
      obtain ⟨v,σ8,H8,I8,r8,q⟩ := q8
      have I8' : Inv X pins σ8 H8 s8 := Inv.unheld I0 I8
      obtain ⟨m,hn8,_⟩ := I8'.loc
      refine wpAny_nameGoes hn hn8 (by rw [I0.ok.kind]; rfl) fun h' m' hn' hs' => ?_
      exact ⟨v,_,H8,I8'.blank hn' hs',r8,q⟩
  · refine (PySem.W.exm_one (M:=model X.prog X.w) I1.kIn LT hx).here ?_
    exact hr cls a pins s0 s σ H0 H' D B tt I0 F os bare h
def tTry (tb : XK → TS) (th : TH) : TS := fun D σ H => ∃ E : XK,tb E D σ H ∧ ∀ cls d H' a,E cls d H' → H' a = none → th cls a D σ H'
theorem ps_try {body : List Stmt} {h₀ : ExceptHandler} {hs : List ExceptHandler} {tb : XK → TS} {th : TH} {pos : Pos} (hf : X.env.frame = some X.env.locals) (hst : X.stack = X.env :: X.outer)
    (hb : ∀ (W : Value → Shared → Prop) (pins : List (Addr × Obj)) (σ : St) (E : XK),PassAt (CX1 X.prog X.w) (X.wish W) pins σ E → SSs (X.wish W) pins σ body (tb E)) (hh : PHs X (h₀ :: hs) th) :
    PS X (.Try body (h₀ :: hs) [] [] pos) (tTry tb th) := by
  intro pins s σ H D I h
  obtain ⟨E,h1,h2⟩ := h
  let W : Value → Shared → Prop := fun e s' => ∃ H1 s1,Inv X pins σ H1 s1 ∧ CX1 X.prog X.w X.stack H1 s1 E e s'
  have hp : PassAt (CX1 X.prog X.w) (X.wish W) pins σ E := fun H1 s1 e s' I1 q => ⟨H1,s1,I1.unwish,q⟩
  refine wpAny_Try_except (wpAny_mono (hb W pins σ E hp s H D (I.wish W) h1) (fun f s1 q => ?_) fun e s1 q => ?_)
  · have q' := SP.unwish q
    cases f with
    | next => exact wpAny_execs_nil q'
    | brk => exact q'
    | cont => exact q'
    | ret v => exact q'
  · obtain ⟨H1,s2,I2,a,cls,H',B,tt,rfl,os,bare,F,qE⟩ := q
    have F' : Fly X.prog X.w (X.env :: X.outer) H1 H' s2.heap a cls s1.heap B tt := by rw [← hst]; exact F
    refine wpAny_looks_onW (by rw [← hst]; exact I2.ok.frames) hf F'.fly fun h₄ hheld hsm₄ => ?_
    refine wpAny_landsW hheld fun h₅ hfl₅ hsm₅ => ?_
    have F5 : Fly X.prog X.w X.stack H1 H' s2.heap a cls h₅ B tt := by
      have z : Heap.FlyingW B X.stack a cls (.ref tt) h₅ := by rw [hst]; exact hfl₅
      exact Fly.slots (s:=s1) F z (hsm₄.trans hsm₅)
    exact hh cls a pins s2 { s1 with heap := h₅ } σ H1 H' D B tt I2 F5 os bare (h2 cls none H' a qE F.none)
end
end L2
set_option Elab.async false
set_option maxRecDepth 100000
set_option maxHeartbeats 4000000
namespace L2
open PySem PySem.Spec PyProof.Rows
section
variable {X : Cx}
theorem Vals.insert {xs : List V} {us : List Value} (r : Vals xs us) {y : V} {u : Value} (q : RelV y u) (k : Nat) : Vals (xs.take k ++ y :: xs.drop k) (us.take k ++ u :: us.drop k) := (r.take k).append (.cons q (r.drop k))
theorem ins_array (its : List Value) (u : Value) (k : Nat) : ((its.toArray.extract 0 k).push u ++ its.toArray.extract k) = (its.take k ++ u :: its.drop k).toArray := by
  apply Array.toList_inj.mp
  have e : List.take (its.length - k) (List.drop k its) = List.drop k its := List.take_of_length_le (by simp)
  simp [List.extract_eq_take_drop,e]
def rInsert : V → List V → Hp → VK → Prop := fun x vs H Q => ∃ l xs i y,x = .ref l ∧ vs = [.int i,y] ∧ H l = some (.lst xs) ∧ (0 ≤ i ∧ i ≤ (xs.length : Int)) ∧ xs.length < sizeLine ∧ Q .non (upd H l (.lst (xs.take i.toNat ++ y :: xs.drop i.toNat)))
theorem mt_insert : MtR X "list.insert" rInsert := by
  intro pins s σ H x vs v us Q I rx rv h
  obtain ⟨l,xs,i,y,rfl,rfl,hH,⟨h1,h2⟩,hz,q⟩ := h
  cases rx
  obtain ⟨u,u',rfl,ru,ru'⟩ := rv.two
  obtain ⟨t,rfl⟩ := ru
  obtain ⟨z,its,n,r,hl,e⟩ := I.lstM hH
  have hs : sizeLine < 2 ^ 63 := line63
  have hc0 : ¬ (!Builtin.List.listFitsIndex i) = true := by
    unfold Builtin.List.listFitsIndex
    have a1 : (-(2 ^ 63 : Int) ≤ i) := by lia
    have a2 : i < 2 ^ 63 := by lia
    simp only [decide_eq_true a1,decide_eq_true a2]
    decide
  refine call_meets PySem.F.slot_list_insert ⟨_,e,rfl⟩ PySem.F.entry_list_insert (PySem.F.args_list_insert_3 _ _ _) (AutoSeq1.list_insert_list_int_val_1 l its.toArray n i t u' hc0 (by rw [List.size_toArray]; lia)) ⟨e,?_⟩
  refine ⟨.non,_,I.lset (its':=its.take i.toNat ++ u' :: its.drop i.toNat) hH e ?_ (r.insert ru' i.toNat) ?_,rfl,q⟩
  · dsimp only
    rw [if_neg (by lia),List.size_toArray,show min i.toNat its.length = i.toNat by lia]
    exact ins_array its u' i.toNat
  · simp only [List.length_append,List.length_cons,List.length_take,List.length_drop]
    omega
theorem countP_eqU {x : V} : ∀ {xs : List V} {us : List Value},Vals xs us → xs.all flatV = true → us.countP (eqU x) = xs.countP fun y => eqV y x
  | _,_,.nil,_ => rfl
  | y :: xs,u :: us,.cons r t,f => by
    rw [List.all_cons,Bool.and_eq_true] at f
    rw [List.countP_cons,List.countP_cons,eqU_of r f.1,countP_eqU t f.2]
def rCount (K : PySem.W.Frag) : V → List V → Hp → VK → Prop := fun x vs H Q => ∃ l xs y,x = .ref l ∧ vs = [y] ∧ SqL K H l xs ∧ flatV y = true ∧ xs.all flatV = true ∧ Q (.int ((xs.countP fun z => eqV z y : Nat) : Int)) H
theorem mt_count : MtR X "list.count" (rCount X.K) := by
  intro pins s σ H x vs v us Q I rx rv h
  obtain ⟨l,xs,y,rfl,rfl,hH,fy,fx,q⟩ := h
  cases rx
  obtain ⟨u,rfl,ru⟩ := rv.one
  obtain ⟨its,r,pl,hz⟩ := I.list hH
  obtain ⟨⟨cls,dd,data,sl⟩,ho,hc,n,hd⟩ := pl.isList
  simp only at hc hd
  subst hc hd
  refine call_meets PySem.F.slot_list_count ⟨_,ho,rfl⟩ PySem.F.entry_list_count (PySem.F.args_list_count_2 _ _) (SeqAt.list_countAt l its.toArray n dd sl u (eqU y)) ⟨ho,fun w hw => mem_eqAt ru fy r fx w (by simpa using hw),?_⟩
  refine ⟨.int _,H,I.tok _,⟨s.toks,?_⟩,q⟩
  rw [show its.toArray.toList = its from rfl,countP_eqU r fx]
def rIndex (K : PySem.W.Frag) : V → List V → Hp → VK → Prop := fun x vs H Q => ∃ (l : Addr) (xs : List V) (y z : V) (j : Nat),x = .ref l ∧ vs = [y] ∧ SqL K H l xs ∧ flatV y = true ∧ xs.all flatV = true ∧ xs[j]? = some z ∧ eqV z y = true ∧ (∀ (m : Nat) (z : V),m < j → xs[m]? = some z → eqV z y = false) ∧ Q (.int (j : Int)) H
theorem mt_index : MtR X "list.index" (rIndex X.K) := by
  intro pins s σ H x vs v us Q I rx rv h
  obtain ⟨l,xs,y,z,j,rfl,rfl,hH,fy,fx,hz,he,hno,q⟩ := h
  cases rx
  obtain ⟨u,rfl,ru⟩ := rv.one
  obtain ⟨its,r,pl,hsz⟩ := I.list hH
  obtain ⟨⟨cls,dd,data,sl⟩,ho,hc,n,hd⟩ := pl.isList
  simp only at hc hd
  subst hc hd
  have hl := r.length
  have look : ∀ (m : Nat) (hm : m < its.toArray.size),∃ z,xs[m]? = some z ∧ eqU y its.toArray[m] = eqV z y := fun m hm => by
    have hm' : m < its.length := by simpa using hm
    have e : xs[m]? = some xs[m] := List.getElem?_eq_getElem (by omega)
    obtain ⟨w,hw,rw'⟩ := r.get e
    refine ⟨_,e,?_⟩
    have : its.toArray[m] = w := by
      have h2 : its[m]? = some its[m] := List.getElem?_eq_getElem hm'
      rw [hw] at h2
      cases h2
      simp
    rw [this]
    exact eqU_of rw' (List.all_eq_true.mp fx _ (List.mem_of_getElem? e))
  have hj : j < its.toArray.size := by have := (List.getElem?_eq_some_iff.mp hz).1; simp; omega
  have hs : (j : Int) < 2 ^ 63 - 1 := by
    have h2 := sizeLine_eq
    have h3 : its.toArray.size = its.length := by simp
    omega
  refine call_meets PySem.F.slot_list_index ⟨_,ho,rfl⟩ PySem.F.entry_list_index (PySem.F.args_list_index_2 _ _) (SeqAt.list_indexAt l its.toArray n dd sl u (eqU y) j hj hs ?_ fun m hm hmj => ?_) ⟨ho,fun w hw => mem_eqAt ru fy r fx w (by simpa using hw),?_⟩
  · obtain ⟨z',h1,h2⟩ := look j hj
    rw [hz] at h1
    cases h1
    rw [h2,he]
  · obtain ⟨z',h1,h2⟩ := look m hm
    rw [h2,hno m z' hmj h1]
  · exact ⟨.int _,H,I.tok _,⟨s.toks,rfl⟩,q⟩
theorem call_rangeV : CallR X (.type "range") (fun xs H Q => ∃ j : Int,xs = [.int j] ∧ ∀ r,H r = none → Q (.ref r) (upd H r (.rng 0 j))) := by
  intro pins s σ H xs us Q I r h
  obtain ⟨j,rfl,q⟩ := h
  obtain ⟨u,rfl,t,rfl⟩ := vals1 r
  refine call_range_1 ⟨.ref s.heap.objs.size,_,I.laid (fun b o e => Heap.get?_push_of_some _ e) (Nat.le_refl _) (show ObjOk X.prog X.w _ _ _ (.rng 0 j) from ⟨_,_,_,Heap.get?_push_size _ rfl⟩),rfl,q _ I.fresh⟩
theorem vals_items {lo : Int} : ∀ {n : Nat} {its : List Value},its.length = n → (∀ (j : Nat) v,its[j]? = some v → ∃ t,v = Value.int (lo + (j : Int) * 1) t) → Vals ((List.range n).map fun k : Nat => V.int (lo + (k : Int))) its
  | n,its,hl,h => by
    subst hl
    induction its generalizing lo with
    | nil => exact .nil
    | cons u us ih =>
      rw [List.length_cons,List.range_succ_eq_map,List.map_cons,List.map_map]
      refine .cons ?_ ?_
      · obtain ⟨t,e⟩ := h 0 u rfl
        exact ⟨t,by rw [e]; simp⟩
      · have := ih (lo:=lo + 1) fun j v hj => by
          obtain ⟨t,e⟩ := h (j + 1) v (by simpa using hj)
          exact ⟨t,by rw [e]; congr 1; push_cast; lia⟩
        have e : ((fun k : Nat => V.int (lo + (k : Int))) ∘ Nat.succ) = fun k : Nat => V.int (lo + 1 + (k : Int)) := by
          funext k; show V.int _ = V.int _; congr 1; simp only [Nat.succ_eq_add_one]; push_cast; lia
        rw [e]; exact this
theorem call_list_rng (hc : X.calm = true) : CallR X (.type "list") (fun xs H Q => ∃ (p : Addr) (lo hi : Int),xs = [.ref p] ∧ H p = some (.rng lo hi) ∧ (-(2 ^ 62) ≤ lo ∧ lo < 2 ^ 62 ∧ -(2 ^ 62) ≤ hi ∧ hi < 2 ^ 62) ∧ (hi - lo).toNat ≤ sizeLine ∧
    ∀ l,H l = none → Q (.ref l) (upd H l (.lst ((List.range (hi - lo).toNat).map fun k : Nat => V.int (lo + (k : Int)))))) := by
  intro pins s σ H xs us Q I r h
  obtain ⟨p,lo,hi,rfl,hp,⟨b1,b2,b3,b4⟩,hz,q⟩ := h
  obtain ⟨u,rfl,rx⟩ := vals1 r
  cases rx
  obtain ⟨t,t',t'',hr⟩ := (show ∃ t u v,s.heap.get? p = some { cls := .type "range",data := .fields #[.int lo t,.int hi u,.int 1 v] } from I.hok p _ hp)
  have hn : Builtin.Range.rangeSize lo hi 1 = (((hi - lo).toNat : Nat) : Int) := by rw [rangeSize_one]; split <;> lia
  refine call_list_range (I.ok.hd hc) hr (small_one b1 b2 b3 b4) hn (by rw [show (2 ^ 24 : Nat) = sizeLine from rfl]; exact hz) fun h' tk acc' c' kp e items => ?_
  refine ⟨.ref s.heap.objs.size,_,I.laid kp (Nat.le_refl _) (show ObjOk X.prog X.w _ h' _ (.lst _) from ⟨by simpa using hz,acc'.toList,c',vals_items (by have := items.1; simpa using this) fun j v hj => items.2 j v (by simpa using hj),by simpa using e⟩),rfl,q _ I.fresh⟩
theorem call_allB (hc : X.calm = true) : CallR X (.builtin "all") (fun xs H Q => ∃ (p : Addr) (bs : List Bool),xs = [.ref p] ∧ SqL X.K H p (bs.map V.bl) ∧ Q (.bl (bs.all fun b => b)) H) := by
  intro pins s σ H xs us Q I r h
  obtain ⟨p,bs,rfl,hq,q⟩ := h
  obtain ⟨u,rfl,rx⟩ := vals1 r
  cases rx
  obtain ⟨its,rv,pl,hz⟩ := I.list hq
  have hlt : p < s.heap.objs.size := by obtain ⟨o,e,_⟩ := pl.isList; exact Heap.lt_size e
  have hb : ∀ (i : Nat) v,its.toArray[i]? = some v → ∃ b,bs[i]? = some b ∧ v = Value.bool b := fun i v hv => by
    have hv' : its[i]? = some v := by simpa using hv
    have hlen := rv.length
    cases hx : (bs.map V.bl)[i]? with
    | none => rw [Vals.none_of rv hx] at hv'; cases hv'
    | some x =>
      obtain ⟨u,hu,ru⟩ := rv.get hx
      rw [hv'] at hu; cases hu
      rw [List.getElem?_map] at hx
      cases hbi : bs[i]? with
      | none => rw [hbi] at hx; cases hx
      | some b => rw [hbi] at hx; cases hx; exact ⟨b,rfl,ru⟩
  refine call_all_walk (wpAny_pyIter_list pl.isList ?_)
  refine ⟨s.heap.objs.size,_,[s.heap.objs.size],its.toArray.size,_,_,fun i => (bs[i]?).getD true,rfl,Walks.list (A:=X.A.in1) (I.ok.hd hc) s.heap.objs.size p (Nat.ne_of_lt hlt) its.toArray,
    ⟨⟨_,Heap.get?_push_size _ rfl,rfl,rfl⟩,pl.isList.push _⟩,fun i v s' Q' E' hP hQ => ?_,fun h' tk kp => ?_⟩
  · obtain ⟨b,e1,rfl⟩ := hb i v hP
    dsimp only at hQ
    rw [e1] at hQ
    exact wpAny_truthy_bool hQ
  · have hall : (List.range its.toArray.size).all (fun i => (bs[i]?).getD true) = bs.all fun b => b := by
      have hlen : its.toArray.size = bs.length := by rw [List.size_toArray,← rv.length,List.length_map]
      rw [hlen,Bool.eq_iff_iff,List.all_eq_true,List.all_eq_true]
      constructor
      · intro h b hb
        obtain ⟨i,hi,rfl⟩ := List.mem_iff_getElem.mp hb
        have := h i (by simpa using hi)
        simpa [hi] using this
      · intro h i hi
        have hi' : i < bs.length := by simpa using hi
        simpa [hi'] using h bs[i] (List.getElem_mem hi')
    rw [hall]
    refine ⟨.bl _,H,I.kept (h':=h') (t':=tk) fun b o e => kp b o (fun z => ?_) (Heap.get?_push_of_some _ e),rfl,q⟩
    rw [List.mem_singleton.mp z] at e
    exact absurd (Heap.lt_size e) (Nat.lt_irrefl _)
theorem call_sortedI : CallR X (.builtin "sorted") (fun xs H Q => ∃ (p : Addr) (ns : List Int),xs = [.ref p] ∧ SqL X.K H p (ns.map V.int) ∧ ns.length < 64 ∧
    ∀ l (ns' : List Int),H l = none → ns'.Perm ns → ns'.Pairwise (· ≤ ·) → Q (.ref l) (upd H l (.lst (ns'.map V.int)))) := by
  intro pins s σ H xs us Q I r h
  obtain ⟨p,ns,rfl,hq,h64,q⟩ := h
  obtain ⟨u,rfl,rx⟩ := vals1 r
  cases rx
  obtain ⟨its,rv,pl,hz⟩ := I.list hq
  have hlen := rv.length
  rw [List.length_map] at hlen
  refine sorted_ints (vs:=its) pl.isList (intsAre_of rv) (by omega) fun out ns' a1 a2 a3 => ?_
  obtain ⟨e,he⟩ := sortedAll_at s.heap its out
  have hz' : (ns'.map V.int).length ≤ sizeLine := by rw [List.length_map,a2.length_eq,sizeLine_eq]; lia
  refine ⟨.ref (s.heap.objs.size + 1),_,I.laid (t':=s.toks) (fun _ _ => sortedAll_old) (Nat.le_succ _) (show ObjOk X.prog X.w _ _ _ (.lst (ns'.map V.int)) from ⟨hz',out.toList,e,vals_ints a1,by simpa using he⟩),rfl,q _ ns' (I.hok.fresh (Nat.le_succ _)) a2 a3⟩
theorem call_setI (hc : X.calm = true) : CallR X (.type "set") (fun xs H Q => ∃ (p : Addr) (ns : List Int),xs = [.ref p] ∧ SqL X.K H p (ns.map V.int) ∧ ns.length < 1000 ∧
    ∀ l S,H l = none → Q (.ref l) (upd H l (.set S (firstMet (fun i => ns.getD i 0) ns.length).length))) := by
  intro pins s σ H xs us Q I r h
  obtain ⟨p,ns,rfl,hq,hlt,q⟩ := h
  obtain ⟨u,rfl,rx⟩ := vals1 r
  cases rx
  obtain ⟨its,rv,pl,hz⟩ := I.list hq
  have hlen := rv.length
  rw [List.length_map] at hlen
  have hsz : its.toArray.size = ns.length := by rw [List.size_toArray,hlen]
  refine PySem.call_set_list (I.ok.hd hc) pl.isList (intsAre_of rv) (by rw [hsz]; show ns.length + 1 < 4096; lia) fun h' tk hs kp => ?_
  rw [hsz] at hs
  exact ⟨.ref s.heap.objs.size,_,I.laid (fun b o e => kp b o (Heap.lt_size e) e) (Nat.le_refl _) (show ObjOk X.prog X.w _ h' _ (.set _ _) from hs),rfl,q _ _ I.fresh⟩
inductive EqR (K : PySem.W.Frag) (H : Hp) : Nat → V → V → Bool → Prop where
  | flat {d : Nat} {x y : V} (hx : flatV x = true) (hy : flatV y = true) : EqR K H d x y (eqV x y)
  | same {d : Nat} (a : Addr) : EqR K H d (.ref a) (.ref a) true
  | lists {d : Nat} {a b : Addr} {xs ys : List V} {e : Nat → Bool} (hne : a ≠ b) (ha : SqL K H a xs) (hb : SqL K H b ys) (hl : xs.length = ys.length) (he : ∀ (i : Nat) x y,xs[i]? = some x → ys[i]? = some y → EqR K H d x y (e i)) : EqR K H (d + 1) (.ref a) (.ref b) ((List.range xs.length).all e)
  | lens {d : Nat} {a b : Addr} {xs ys : List V} (hne : a ≠ b) (ha : SqL K H a xs) (hb : SqL K H b ys) (hl : xs.length ≠ ys.length) : EqR K H (d + 1) (.ref a) (.ref b) false
  | tups {d : Nat} {a b : Addr} {xs ys : List V} {e : Nat → Bool} (hne : a ≠ b) (ha : SqT K H a xs) (hb : SqT K H b ys) (he : ∀ (i : Nat) x y,xs[i]? = some x → ys[i]? = some y → EqR K H d x y (e i)) : EqR K H (d + 1) (.ref a) (.ref b) ((List.range (min xs.length ys.length)).all e && xs.length == ys.length)
theorem pair_at {xs ys : List V} {us vs : List Value} (r : Vals xs us) (r' : Vals ys vs) {j : Nat} (h1 : j < us.toArray.size) (h2 : j < vs.toArray.size) : ∃ x y,xs[j]? = some x ∧ ys[j]? = some y ∧ RelV x us.toArray[j] ∧ RelV y vs.toArray[j] := by
  have l1 := r.length
  have l2 := r'.length
  have h1' : j < us.length := by simpa using h1
  have h2' : j < vs.length := by simpa using h2
  have e1 : xs[j]? = some (xs[j]'(by omega)) := List.getElem?_eq_getElem (by omega)
  have e2 : ys[j]? = some (ys[j]'(by omega)) := List.getElem?_eq_getElem (by omega)
  obtain ⟨u,hu,ru⟩ := r.get e1
  obtain ⟨v,hv,rv⟩ := r'.get e2
  refine ⟨_,_,e1,e2,?_,?_⟩
  · have : us.toArray[j] = u := by
      have : us[j]? = some us[j] := by simp [h1']
      rw [hu] at this; cases this; simp
    rw [this]; exact ru
  · have : vs.toArray[j] = v := by
      have : vs[j]? = some vs[j] := by simp [h2']
      rw [hv] at this; cases this; simp
    rw [this]; exact rv
theorem eqR_at {pins : List (Addr × Obj)} {σ : St} {H : Hp} {s : Shared} (I : Inv X pins σ H s) {d : Nat} {x y : V} {b : Bool} (h : EqR X.K H d x y b) :
    ∀ {A : Around} {u v : Value},A.units + d < cLine → RelV x u → RelV y v → SeqAt.EqAt A s u v b := by
  induction h with
  | flat hx hy => intro A u v _ ru rv; exact eqAt_V ru rv hx hy
  | same a => intro A u v _ ru rv; cases ru; cases rv; exact SeqAt.EqAt.same _
  | @lists d a b xs ys e hne ha hb hl he ih =>
    intro A u v hu ru rv
    cases ru; cases rv
    obtain ⟨us,r1,p1,_⟩ := I.list ha
    obtain ⟨vs,r2,p2,_⟩ := I.list hb
    have l1 := r1.length
    have l2 := r2.length
    have := SeqAt.RcAt.lists (A:=A) (s:=s) (e:=e) p1.isList p2.isList (by simp; lia) (by omega) fun j h1 h2 => by
      obtain ⟨x,y,e1,e2,ru,rv⟩ := pair_at r1 r2 h1 h2
      exact ih j x y e1 e2 (A:=A.in1) (by show A.units + 1 + d < cLine; omega) ru rv
    rw [show us.toArray.size = xs.length by simp; lia] at this
    exact SeqAt.EqAt.of_refs hne this
  | lens hne ha hb hl =>
    intro A u v hu ru rv
    cases ru; cases rv
    obtain ⟨us,r1,p1,_⟩ := I.list ha
    obtain ⟨vs,r2,p2,_⟩ := I.list hb
    have l1 := r1.length
    have l2 := r2.length
    exact SeqAt.EqAt.of_refs hne (SeqAt.RcAt.lists_lengths p1.isList p2.isList (by simp; lia) (by omega))
  | @tups d a b xs ys e hne ha hb he ih =>
    intro A u v hu ru rv
    cases ru; cases rv
    obtain ⟨us,r1,p1,_⟩ := I.tuple ha
    obtain ⟨vs,r2,p2,_⟩ := I.tuple hb
    have l1 := r1.length
    have l2 := r2.length
    have := SeqAt.RcAt.tuples (A:=A) (s:=s) (e:=e) (show s.heap.IsTuple a us.toArray from p1) (show s.heap.IsTuple b vs.toArray from p2) (by omega) fun j h1 h2 => by
      obtain ⟨x,y,e1,e2,ru,rv⟩ := pair_at r1 r2 h1 h2
      exact ih j x y e1 e2 (A:=A.in1) (by show A.units + 1 + d < cLine; omega) ru rv
    rw [show us.toArray.size = xs.length by simp; lia,show vs.toArray.size = ys.length by simp; lia] at this
    exact SeqAt.EqAt.of_refs hne this
def rEqL (K : PySem.W.Frag) (neg : Bool) : R2 := fun x y H Q => ∃ a b xs ys,x = .ref a ∧ y = .ref b ∧ SqL K H a xs ∧ SqL K H b ys ∧
  ((xs.length ≠ ys.length ∧ Q (.bl neg) H) ∨ (xs.length = ys.length ∧ ∃ (d : Nat) (e : Nat → Bool),d ≤ 20 ∧ (∀ (i : Nat) x y,xs[i]? = some x → ys[i]? = some y → EqR K H d x y (e i)) ∧ Q (.bl (neg ^^ (List.range xs.length).all e)) H))
theorem op_eqL (hu : X.A.units + 30 < cLine) : OpR X (compareOp .Eq) (rEqL X.K false) := by
  intro pins s σ H x y v u Q I rx ry h
  obtain ⟨a,b,xs,ys,rfl,rfl,ha,hb,h⟩ := h
  cases rx; cases ry
  obtain ⟨us,r1,p1,_⟩ := I.list ha
  obtain ⟨vs,r2,p2,_⟩ := I.list hb
  have l1 := r1.length
  have l2 := r2.length
  rcases h with ⟨hl,q⟩ | ⟨hl,d,e,hd,he,q⟩
  · exact SeqAt.eq_list_lengthsAt p1.isList p2.isList (by simp; omega) (by omega) ⟨.bl false,H,I,rfl,q⟩
  · refine SeqAt.eq_listAt (e:=e) p1.isList p2.isList (by simp; omega) (by omega) (fun j h1 h2 => ?_) ?_
    · obtain ⟨x,y,e1,e2,ru,rv⟩ := pair_at r1 r2 h1 h2
      exact eqR_at I (he j x y e1 e2) (by show X.A.units + 1 + d < cLine; omega) ru rv
    · rw [show us.toArray.size = xs.length by simp; omega]
      exact ⟨.bl _,H,I,rfl,by simpa using q⟩
theorem op_neL (hu : X.A.units + 30 < cLine) : OpR X (compareOp .NotEq) (rEqL X.K true) := by
  intro pins s σ H x y v u Q I rx ry h
  obtain ⟨a,b,xs,ys,rfl,rfl,ha,hb,h⟩ := h
  cases rx; cases ry
  obtain ⟨us,r1,p1,_⟩ := I.list ha
  obtain ⟨vs,r2,p2,_⟩ := I.list hb
  have l1 := r1.length
  have l2 := r2.length
  rcases h with ⟨hl,q⟩ | ⟨hl,d,e,hd,he,q⟩
  · exact SeqAt.RcNeAt.lists_lengths p1.isList p2.isList (by simp; omega) (by omega) _ _ _ _ ⟨.bl true,H,I,rfl,q⟩
  · refine SeqAt.RcNeAt.lists (e:=e) p1.isList p2.isList (by simp; omega) (by omega) (fun j h1 h2 => ?_) _ _ _ _ ?_
    · obtain ⟨x,y,e1,e2,ru,rv⟩ := pair_at r1 r2 h1 h2
      exact eqR_at I (he j x y e1 e2) (by show X.A.units + 1 + d < cLine; omega) ru rv
    · rw [show us.toArray.size = xs.length by simp; omega]
      exact ⟨.bl _,H,I,rfl,by simpa using q⟩
theorem call_rangeV2 : CallR X (.type "range") (fun xs H Q => ∃ i j : Int,xs = [.int i,.int j] ∧ ∀ r,H r = none → Q (.ref r) (upd H r (.rng i j))) := by
  intro pins s σ H xs us Q I r h
  obtain ⟨i,j,rfl,q⟩ := h
  obtain ⟨u,u',rfl,⟨t,rfl⟩,⟨t',rfl⟩⟩ := vals2 r
  exact call_range_2 ⟨.ref s.heap.objs.size,_,I.laid (fun b o e => Heap.get?_push_of_some _ e) (Nat.le_refl _) (show ObjOk X.prog X.w _ _ _ (.rng i j) from ⟨_,_,_,Heap.get?_push_size _ rfl⟩),rfl,q _ I.fresh⟩
variable {a b c d : Expr} {ta tb tc td : TE} {pos : Pos}
def tChain3 (r r' r'' : R2) (ta tb tc td : TE) : TE := fun σ H Q => ta σ H fun x H1 => tb σ H1 fun y H2 => r x y H2 fun z H3 => ∃ k,z = .bl k ∧
  (if k = true then tc σ H3 fun w' H4 => r' y w' H4 fun z' H5 => ∃ k',z' = .bl k' ∧ (if k' = true then td σ H5 fun w'' H6 => r'' w' w'' H6 Q else Q (.bl false) H5) else Q (.bl false) H3)
theorem pe_chain3 {op op' op'' : CmpOp} {r r' r'' : R2} (ho : OpR X (compareOp op) r) (ho' : OpR X (compareOp op') r') (ho'' : OpR X (compareOp op'') r'') (ha : PE X a ta) (hb : PE X b tb) (hc : PE X c tc) (hd : PE X d td)
    (hm : lastMarks [op,op',op''] [b,c,d] = false := by with_unfolding_all rfl) : PE X (.Compare a [op,op',op''] [b,c,d] pos) (tChain3 r r' r'' ta tb tc td) := by
  intro pins s σ H Q I h
  refine Compare_chain (thn (ha pins s σ H _ I h) fun v s1 ⟨x,H1,I1,r1,q1⟩ => chain_link (thn (hb pins s1 σ H1 _ I1 q1) fun u s2 ⟨y,H2,I2,r2,q2⟩ =>
    thn (ho pins s2 σ H2 x y v u _ I2 r1 r2 q2) fun d s3 ⟨z,H3,I3,r3,k,e,q3⟩ => ?_)) hm
  subst e
  cases r3
  refine wpAny_truthy_bool ?_
  cases k with
  | false => exact ite_ff ⟨.bl false,H3,I3,rfl,q3⟩
  | true =>
    refine ite_tt (chain_link (thn (hc pins s3 σ H3 _ I3 q3) fun w' s4 ⟨z',H4,I4,r4,q4⟩ => thn (ho' pins s4 σ H4 y z' u w' _ I4 r2 r4 q4) fun d' s5 ⟨z2,H5,I5,r5,k2,e2,q5⟩ => ?_))
    subst e2
    cases r5
    refine wpAny_truthy_bool ?_
    cases k2 with
    | false => exact ite_ff ⟨.bl false,H5,I5,rfl,q5⟩
    | true => exact ite_tt (chain_last (thn (hd pins s5 σ H5 _ I5 q5) fun w'' s6 ⟨z3,H6,I6,r6,q6⟩ => ho'' pins s6 σ H6 z' z3 w' w'' Q I6 r4 r6 q6))
end
end L2
set_option Elab.async false
set_option maxRecDepth 100000
set_option maxHeartbeats 1000000
namespace L2
open PySem PySem.Spec PySem.Calls PyProof.Rows PySem.W Builtin Builtin.ObjectAttr Builtin.Getset_descriptor
structure ExC (K : Frag) (D : Addr) : Prop where
  ga : findIn K (.ref D) "__getattribute__" = some (some (.builtin "BaseException.__getattribute__"))
  gk : findIn K (.ref D) "__getattr__" = some none
  hb : mroIn K D (.type "BaseException") = some true
  ha : findIn K (.ref D) "__class__" = some (some (.builtin "object.__class__"))
  hn : specialIn K (.builtin "object.__class__") "__get__" = some (some (.builtin "getset_descriptor.__get__"))
  ht : takesIn K (.builtin "object.__class__") = some true
  hm : mroIn K D (.type "object") = some true
section
variable {K : Frag} {D x : Addr} {prog : Program} {w : World} {A : Around} {E : Value → Shared → Prop} {s : Shared}
theorem ExC.cl (c : ExC K D) : (clsIn K D).isSome = true := by
  obtain ⟨cd,h,_⟩ := Option.bind_eq_some_iff.mp c.hm
  rw [h]; rfl
theorem ExC.isT (c : ExC K D) {M : Model} {h : Heap} (X : K.In h) : Looks M h (isType (.ref D)) true := by
  have hc := c.cl
  unfold clsIn at hc
  split at hc
  · rename_i ho
    intro A' Q' E' s' k q
    unfold isType loadHead
    exact wpAny_bind (wpAny_loadPart (k _ _ (X _ _ ho)) (wpAny_pure q))
  · cases hc
theorem exc_find (c : ExC K D) {M : Model} {h : Heap} (X : K.In h) : Looks M h (find (.ref x) (.ref D) "__class__") (.bind (.builtin "getset_descriptor.__get__") (.builtin "object.__class__")) := by
  have L1 := looks_findIn (M:=M) X c.ha
  have L2 : Looks M h (getOf (some (.builtin "object.__class__"))) (some (.builtin "getset_descriptor.__get__")) := looks_specialIn X c.hn
  have L3 := looks_takesIn (M:=M) X c.ht
  exact L1.andThen (L2.andThen ((show Looks M h (dataDescriptor? (some (.builtin "object.__class__")) (some (.builtin "getset_descriptor.__get__"))) (some (.builtin "getset_descriptor.__get__",.builtin "object.__class__")) from L3.andThen .now).andThen (Looks.tag .now)))
theorem exc_get {tp : Value} {R : Result → Shared → Prop} (c : ExC K D) (X : K.In s.heap) (L0 : ∀ M : Model,Looks M s.heap (typeOf (.ref x)) (.ref D)) (h : R (.ok (.ret (.ref D))) s) : codeAny (model prog w) A (.call (.builtin "getset_descriptor.__get__") ⟨[.builtin "object.__class__",.ref x,tp],[]⟩) R s := by
  obtain ⟨hh,g,dr,t,os⟩ := s
  replace L0 := L0 (model prog w)
  have L1 := looks_mroIn (M:=model prog w) X c.hm
  refine codeAny_call_builtin KF.slot_gs.plain KF.entry_gs (KF.slot_gs.check _ _ _ _ _ _ _ _ KF.type_class (KF.args_gs _ _ _) ?_)
  unfold Builtin.«getset_descriptor.__get__» descrGet
  rw [dga_obj]
  refine wpAny_bind (wpAny_pure ?_)
  unfold descrGetter descrCheckInstance descrNameAndClass isInstance
  simp only [KF.owner_class]
  repeat lk
  refine ⟨Code.quiet_builtin _ (by decide +kernel),codeAny_builtin KF.entry_class ?_⟩
  unfold Builtin.«object.__class__» shownTypeOf
  repeat lk
  exact h
theorem exc_entry {tk : Tok} {Q : Fin → Shared → Prop} (c : ExC K D) (X : K.In s.heap) (L0 : ∀ M : Model,Looks M s.heap (typeOf (.ref x)) (.ref D)) (h : Q (.done (.ret (.ref D))) s) : wpAny (model prog w) A (Builtin.«object.__getattribute__» ⟨[.ref x,.str "__class__" tk],[]⟩) Q E s := by
  obtain ⟨hh,g,d,t,os⟩ := s
  have T0 := L0 (model prog w)
  have L3 := exc_find (M:=model prog w) (x:=x) c X
  unfold Builtin.«object.__getattribute__»
  repeat (any_goals (first | assumption | refine wpAny_bind (T0.at ?_) | refine wpAny_bind (L3.at ?_) | wp_step))
  refine exc_get (s:=⟨hh,g,d,t,os⟩) c X L0 ?_
  repeat (any_goals (first | assumption | wp_step))
theorem exc_check {nameV : Value} {Q : Unit → Shared → Prop} (c : ExC K D) (X : K.In s.heap) {M : Model} (T0 : Looks M s.heap (typeOf (.ref x)) (.ref D)) (h : Q () s) : wpAny M A (checkBuiltinCall "BaseException.__getattribute__" ⟨[.ref x,nameV],[]⟩) Q E s := by
  obtain ⟨hh,g,d,t,os⟩ := s
  have hk : builtinKind "BaseException.__getattribute__" = some .slot := by decide +kernel
  have hs : splitId "BaseException.__getattribute__" = some ("BaseException","__getattribute__") := by decide +kernel
  have L1 := looks_mroIn (M:=M) X c.hb
  have ha := F.args_bexc_ga (.ref x) nameV
  simp only [checkBuiltinCall,hk,hs]
  refine wpAny_bind ?_
  unfold isInstance
  refine wpAny_bind (T0.at (L1.at ?_))
  repeat (any_goals (first | assumption | wp_step))
theorem exc_class {Q : Option Value → Shared → Prop} (c : ExC K D) (X : K.In s.heap) (L0 : ∀ M : Model,Looks M s.heap (typeOf (.ref x)) (.ref D)) (h : Q (some (.ref D)) { s with toks := s.toks + 1 }) : wpAny (model prog w) A (getAttr? (.ref x) "__class__") Q E s := by
  obtain ⟨hh,g,d,t,os⟩ := s
  have T0 := L0 (model prog w)
  have L1 := looks_findIn (M:=model prog w) X c.ga
  have L2 := looks_findIn (M:=model prog w) X c.gk
  have f3 := F.excAttr_ValueError.ga.bind (.ref x)
  unfold getAttr? getAttrBy? getAttrBy
  refine wpAny_bind (wpAny_mkText (wpAny_bind (wpAny_attempt (wpAny_holding (wpAny_bind (T0.at (wpAny_bind (L1.at ?_))))))))
  have hx2 : (Value.builtin "BaseException.__getattribute__" == Value.builtin "object.__getattribute__") = false := by decide +kernel
  have hx1 : (onTheHeap (Value.ref D) && Value.builtin "BaseException.__getattribute__" == Value.builtin "object.__getattribute__") = false := by rw [hx2]; rfl
  have hx0 : (false && onTheHeap (Value.builtin "BaseException.__getattribute__")) = false := rfl
  repeat (any_goals (first | assumption | refine wpAny_bind (L2.at ?_) | wp_step))
  refine codeAny_call_builtin F.excAttr_ValueError.ga.plain F.entry_bexc_ga (exc_check (s:=⟨hh,g,d,t + 1,os⟩) c X T0 (exc_entry (s:=⟨hh,g,d,t + 1,os⟩) c X L0 ?_))
  repeat (any_goals (first | assumption | wp_step))
theorem kitx_exc (c : ExC K D) : KitX K (.ref x) (.ref D) (excAt x (.ref D)) where
  ty := fun M h _ p => by
    obtain ⟨o,vs,h1,h2,_⟩ := p
    exact h2 ▸ (Looks.ld h1).andThen .now
  it := fun M h X _ => c.isT X
  ne := fun h tp dd its n sl X htp => by
    refine Bool.eq_false_iff.mpr fun q => ?_
    have hc := c.cl
    have e : D = tp := Value.ref.inj (beq_iff_eq.mp q)
    subst e
    unfold clsIn at hc
    split at hc
    · rename_i ho; cases (X _ _ ho).symm.trans htp
    · cases hc
  ca := fun {_ _ _ _ _ s} X p k => exc_class c X (fun M => by
    obtain ⟨o,vs,h1,h2,_⟩ := p
    exact h2 ▸ (Looks.ld h1).andThen .now) k
end
end L2
set_option Elab.async false
set_option maxRecDepth 100000
set_option maxHeartbeats 4000000
namespace MT
open PySem PySem.W PyProof.Rows
theorem kasWp_of {α : Type} {n : Nat} {lt : Nat → Nat → Bool} {cmp : Nat → Nat → (Bool → Shared → Prop) → Shared → Prop} {s : Shared} {Q : α → Prop}
    (hc : ∀ i j C,i < n → j < n → C (lt i j) s → cmp i j C s) : ∀ {t : KasT α},KOk n lt t Q → t.kasWp cmp (fun a s' => s' = s ∧ Q a) s
  | .ret _,h => ⟨rfl,h⟩
  | .ask i j k,⟨h1,h2,h3⟩ => hc i j _ h1 h2 (kasWp_of hc h3)
theorem map_range_getD {α : Type} (d : α) : ∀ l : List α,(List.range l.length).map (fun i => l.getD i d) = l
  | [] => rfl
  | a :: l => by
    rw [List.length_cons,List.range_succ_eq_map,List.map_cons,List.map_map]
    have := map_range_getD d l
    congr 1
def rank (ts : List Tie) (t : Tie) : Int := ((ts.countP fun u => decide (tlt u t) : Nat) : Int)
theorem tlt_total (a b : Tie) : tlt a b ∨ a = b ∨ tlt b a := by
  obtain ⟨a1,a2⟩ := a; obtain ⟨b1,b2⟩ := b
  unfold tlt; dsimp only
  rcases Int.lt_trichotomy a1 b1 with h | h | h
  · exact .inl (.inl h)
  · subst h
    rcases Int.lt_trichotomy a2 b2 with h | h | h
    · exact .inl (.inr ⟨rfl,h⟩)
    · subst h; exact .inr (.inl rfl)
    · exact .inr (.inr (.inr ⟨rfl,h⟩))
  · exact .inr (.inr (.inl h))
theorem countP_lt {α : Type} {p q : α → Bool} : ∀ {l : List α} {a : α},(∀ x ∈ l,p x = true → q x = true) → a ∈ l → p a = false → q a = true → l.countP p < l.countP q
  | [],_,_,h,_,_ => by simp at h
  | x :: l,a,hs,hm,hp,hq => by
    rw [List.countP_cons,List.countP_cons]
    have hle : l.countP p ≤ l.countP q := List.countP_mono_left fun y hy => hs y (List.mem_cons_of_mem _ hy)
    rcases List.mem_cons.mp hm with rfl | hm
    · rw [hp,hq]; simp; lia
    · have := countP_lt (fun y hy => hs y (List.mem_cons_of_mem _ hy)) hm hp hq
      have h2 := hs x (List.mem_cons_self)
      cases hx : p x with
      | false => simp; omega
      | true => rw [h2 hx]; simp; omega
theorem rank_lt {ts : List Tie} {a b : Tie} (ha : a ∈ ts) (hb : b ∈ ts) : decide (rank ts a < rank ts b) = decide (tlt a b) := by
  have mono : ∀ {x y : Tie},tlt x y → x ∈ ts → rank ts x < rank ts y := fun {x y} h hx => by
    unfold rank
    have := countP_lt (p:=fun u => decide (tlt u x)) (q:=fun u => decide (tlt u y)) (l:=ts) (a:=x) (fun u _ hu => decide_eq_true (tlt_trans (of_decide_eq_true hu) h)) hx (decide_eq_false (tlt_irrefl x)) (decide_eq_true h)
    omega
  by_cases h : tlt a b
  · rw [decide_eq_true h,decide_eq_true (mono h ha)]
  · rw [decide_eq_false h,decide_eq_false]
    rcases tlt_total a b with q | q | q
    · exact absurd q h
    · subst q; lia
    · have := mono q hb; lia
theorem rank_le {ts : List Tie} {a b : Tie} (ha : a ∈ ts) (hb : b ∈ ts) (h : rank ts a ≤ rank ts b) : tle a b := by
  have e := rank_lt hb ha
  have : ¬ tlt b a := by
    intro q
    rw [decide_eq_true q] at e
    have := of_decide_eq_true e
    omega
  rcases tlt_total a b with q | q | q
  · exact q.le
  · subst q; unfold tle; lia
  · exact absurd q this
section
variable {prog : Program} {w : World} {A : Around} {E : Value → Shared → Prop} {s : Shared}
theorem list_sort_asks {a : Addr} {vs : List Value} {n : Nat} {r : Nat → Int} {P : PySem.Fin → Shared → Prop} (ho : s.heap.get? a = some (seqObj "list" vs.toArray n)) (h64 : vs.length < 64)
    (hk : ∀ h',(∀ b o,b ≠ a → s.heap.get? b = some o → h'.get? b = some o) → 2 ≤ vs.length →
      wpAny (model prog w) A (keyKind' vs.toArray) (fun κ s' => s' = { s with heap := h' } ∧ ∀ i j C,i < vs.length → j < vs.length → C (ltR r i j) s' → kas_ask prog w A κ vs i j C s') (fun _ _ => False) { s with heap := h' })
    (h : ∀ p : Array Nat,POk vs.length p → Srt r p vs.length → P (.done (.ret .none)) { s with heap := sortedHeap s.heap a vs (p.toList.map fun i => vs.getD i Value.none).toArray }) :
    wpAny (model prog w) A (Builtin.«list.sort» ⟨[.ref a],[]⟩) P E s := by
  rw [list_sort_plain]
  have ha : a < s.heap.objs.size := Heap.lt_size ho
  refine wpAny_bind (listItems_at ho rfl ?_)
  refine wpAny_bind (listUpdate_at ho rfl ?_ (by rw [List.size_toArray,sizeLine_eq]; omega) (Nat.zero_le _))
  obtain ⟨e1,ho1⟩ : ∃ e1,(s.heap.update a (Obj.mapSeq fun _ => #[])).get? a = some (seqObj "list" #[] e1) := ⟨_,get?_update_seq ho (fun _ => #[])⟩
  refine wpAny_bind (seqEpoch_at ho1 rfl ?_)
  refine wpAny_bind (wpAny_newTuple ?_ (by show vs.length ≤ _; rw [sizeLine_eq]; omega))
  refine wpAny_bind (wpAny_newList ?_ (Nat.zero_le _))
  refine wpAny_holding ?_
  have ho6 : (((s.heap.update a (Obj.mapSeq fun _ => #[])).push (seqObj "tuple" vs.toArray 0)).push (seqObj "list" #[] 0)).get? a = some (seqObj "list" #[] e1) := by
    rw [Heap.get?_push_ne _ _ _ (by rw [size_push',Heap.size_update]; exact Nat.ne_of_lt (Nat.lt_succ_of_lt ha)),Heap.get?_push_ne _ _ _ (by rw [Heap.size_update]; exact Nat.ne_of_lt ha)]
    exact ho1
  have keep : ∀ b o,b ≠ a → s.heap.get? b = some o → (((s.heap.update a (Obj.mapSeq fun _ => #[])).push (seqObj "tuple" vs.toArray 0)).push (seqObj "list" #[] 0)).get? b = some o := fun b o hb e =>
    Heap.get?_push_of_some _ (Heap.get?_push_of_some _ ((Heap.get?_update_other _ _ (Ne.symm hb)).trans e))
  show wpAny (model prog w) A _ P E { s with heap := ((s.heap.update a (Obj.mapSeq fun _ => #[])).push (seqObj "tuple" vs.toArray 0)).push (seqObj "list" #[] 0) }
  dsimp only
  have hsz : vs.toArray.size = vs.length := by simp
  by_cases h2 : vs.toArray.size < 2
  · rw [if_pos h2,if_pos h2]
    refine wpAny_bind (wpAny_pure ?_)
    rw [StateT.run_pure]
    refine wpAny_bind (wpAny_pure ?_)
    dsimp only
    refine wpAny_bind (seqEpoch_at ho6 rfl ?_)
    refine wpAny_bind (listUpdate_at ho6 rfl ?_ (hsz2:=by rw [Array.size_map]; show (pairsOf vs).size ≤ _; rw [pairsOf_size,sizeLine_eq]; omega))
    simp only [bne_self_eq_false,Bool.false_eq_true,if_false]
    have srt : Srt r (List.toArray (List.range vs.length)) vs.length := by
      intro i j hij hj
      have : i = j := by lia
      subst this
      exact Int.le_refl _
    have fin := h (List.toArray (List.range vs.length)) (List.Perm.refl _) srt
    have e : ((arrOf (SortSt.mk' general' (vs.toArray.zip vs.toArray) #[] 7 none)).map (·.2)) = (List.map (fun i => vs.getD i Value.none) (List.toArray (List.range vs.length)).toList).toArray := by
      have e1 : arrOf (SortSt.mk' general' (vs.toArray.zip vs.toArray) #[] 7 none) = vs.toArray.zip vs.toArray := rfl
      rw [e1]
      apply Array.toList_inj.mp
      have e2 : List.map (fun i => vs.getD i Value.none) (List.range vs.length) = vs := map_range_getD Value.none vs
      simp only [Array.toList_map,Array.toList_zip,List.toList_toArray] at e2 ⊢
      rw [List.map_snd_zip (Nat.le_refl _),e2]
    refine wpAny_pure ?_
    rw [← e] at fin
    exact fin
  · rw [if_neg h2,if_neg h2]
    have h2' : 2 ≤ vs.length := by omega
    refine wpAny_bind (wpAny_mono (hk _ keep h2') (fun κ s0 hk0 => ?_) fun _ _ x => x.elim)
    obtain ⟨rfl,hask⟩ := hk0
    refine wpAny_bind (wpAny_mono (kat_run (ks:=vs) (vs:=vs)
      (Q:=fun st' s' => ∃ p : Array Nat,arrOf st' = p.map (kas_item (vs.toArray.zip vs.toArray)) ∧ failedOf st' = none ∧ s' = { s with heap := ((s.heap.update a (Obj.mapSeq fun _ => #[])).push (seqObj "tuple" vs.toArray 0)).push (seqObj "list" #[] 0) } ∧ POk vs.length p ∧ Srt r p vs.length)
      (G:=fun p s' => s' = { s with heap := ((s.heap.update a (Obj.mapSeq fun _ => #[])).push (seqObj "tuple" vs.toArray 0)).push (seqObj "list" #[] 0) } ∧ POk vs.length p ∧ Srt r p vs.length)
      rfl h2' h64 (fun p' st' s' a1 a2 a3 a4 => ⟨p',a2,a3,a4.1,a4.2⟩) (kasWp_of hask (ok_sort (by omega)))) ?_ fun _ _ e => e)
    rintro ⟨⟨⟩,st'⟩ s' ⟨p,har,hf,rfl,hp,hs⟩
    dsimp only
    have hout := kat_snds (ks:=vs) (vs:=vs) rfl har
    have hsz2 : (List.toArray (p.toList.map fun i => vs.getD i Value.none)).size = vs.length := by rw [List.size_toArray,List.length_map,Array.length_toList,hp.size]
    rw [hout]
    refine wpAny_bind (seqEpoch_at ho6 rfl ?_)
    refine wpAny_bind (listUpdate_at ho6 rfl ?_ (Nat.zero_le _) (Nat.le_trans (Nat.le_of_eq hsz2) (by rw [sizeLine_eq]; lia)))
    rw [hf]
    simp only [bne_self_eq_false,Bool.false_eq_true,if_false]
    exact wpAny_pure (h p hp hs)
theorem sorted_asks {l : Addr} {vs : List Value} {r : Nat → Int} {Q : Value → Shared → Prop} (hl : s.heap.IsList l vs.toArray) (h64 : vs.length < 64)
    (hk : ∀ h',(∀ b o,s.heap.get? b = some o → h'.get? b = some o) → 2 ≤ vs.length →
      wpAny (model prog w) A.in1.in1 (keyKind' vs.toArray) (fun κ s' => s' = { s with heap := h' } ∧ ∀ i j C,i < vs.length → j < vs.length → C (ltR r i j) s' → kas_ask prog w A.in1.in1 κ vs i j C s') (fun _ _ => False) { s with heap := h' })
    (h : ∀ p : Array Nat,POk vs.length p → Srt r p vs.length → Q (.ref (s.heap.objs.size + 1)) { s with heap := sortedAll s.heap vs (p.toList.map fun i => vs.getD i Value.none).toArray }) :
    wpAny (model prog w) A (call (.builtin "sorted") [.ref l]) Q E s := by
  refine Calls.call_function_entry kind_sorted plain_sorted entry_sorted (args_sorted1 _) ?_
  unfold Builtin.«sorted»
  refine wpAny_bind (m:=checkCount "sorted" 1 1 _) (wpAny_pure ?_)
  refine wpAny_bind (collect_list hl ?_ (by rw [sizeLine_eq]; omega))
  refine wpAny_bind (wpAny_newList ?_ (by rw [sizeLine_eq]; omega))
  have hsz : ((s.heap.push (seqObj "list" #[] 0)).update s.heap.objs.size (Obj.mapSeq (· ++ vs.toArray))).objs.size = s.heap.objs.size + 1 := by
    rw [Heap.size_update,size_push']
  have hoL : (((s.heap.push (seqObj "list" #[] 0)).update s.heap.objs.size (Obj.mapSeq (· ++ vs.toArray))).push (seqObj "list" vs.toArray 0)).get? (s.heap.objs.size + 1) = some (seqObj "list" vs.toArray 0) := by
    rw [← hsz]; exact Heap.get?_push_size _ rfl
  have keep : ∀ b o,s.heap.get? b = some o → (((s.heap.push (seqObj "list" #[] 0)).update s.heap.objs.size (Obj.mapSeq (· ++ vs.toArray))).push (seqObj "list" vs.toArray 0)).get? b = some o := fun b o q => by
    have hlt : b < s.heap.objs.size := Heap.lt_size q
    rw [Heap.get?_push_ne _ _ _ (by rw [hsz]; exact Nat.ne_of_lt (Nat.lt_succ_of_lt hlt)),Heap.get?_update_ne _ _ _ _ (Nat.ne_of_lt hlt),Heap.get?_push_ne _ _ _ (Nat.ne_of_lt hlt)]
    exact q
  show wpAny _ _ _ _ _ { s with heap := ((s.heap.push (seqObj "list" #[] 0)).update s.heap.objs.size (Obj.mapSeq (· ++ vs.toArray))).push (seqObj "list" vs.toArray 0) }
  rw [hsz]
  refine wpAny_bind (wpAny_holding (wpAny_call_entry slot_list_sort ⟨_,hoL,rfl⟩ entry_list_sort ?body (args_list_sort _)))
  case body =>
    refine list_sort_asks (r:=r) (s:={ s with heap := ((s.heap.push (seqObj "list" #[] 0)).update s.heap.objs.size (Obj.mapSeq (· ++ vs.toArray))).push (seqObj "list" vs.toArray 0) }) hoL h64
      (fun h' kp h2 => hk h' (fun b o e => kp b o (Nat.ne_of_lt (Nat.lt_succ_of_lt (Heap.lt_size e))) (keep b o e)) h2) fun p hp hs => ⟨_,rfl,wpAny_pure ⟨_,rfl,h p hp hs⟩⟩
end
end MT
namespace L2
open PySem PySem.Spec PyProof.Rows PySem.W
section
variable {X : Cx}
def TiesIn (K : PySem.W.Frag) (H : Hp) (as : List V) (ts : List MT.Tie) : Prop := Paired (fun (v : V) (t : MT.Tie) => ∃ a,v = .ref a ∧ SqT K H a [.int t.1,.int t.2]) as ts
theorem TiesIn.get {K : PySem.W.Frag} {H : Hp} : ∀ {as : List V} {ts : List MT.Tie},TiesIn K H as ts → ∀ (i : Nat),i < ts.length → ∃ a,as[i]? = some (.ref a) ∧ SqT K H a [.int (ts.getD i (0,0)).1,.int (ts.getD i (0,0)).2]
  | _,_,.nil,i,h => by simp at h
  | _,_,.cons ⟨a,e,q⟩ _,0,_ => ⟨a,by rw [e]; rfl,q⟩
  | _,_,.cons _ r,i + 1,h => by
    obtain ⟨a,e,q⟩ := TiesIn.get r i (by simpa using h)
    exact ⟨a,by simpa using e,by simpa using q⟩
theorem TiesIn.of {K : PySem.W.Frag} {H : Hp} : ∀ {as : List V} {ts : List MT.Tie},as.length = ts.length → (∀ (i : Nat),i < ts.length → ∃ a,as[i]? = some (.ref a) ∧ SqT K H a [.int (ts.getD i (0,0)).1,.int (ts.getD i (0,0)).2]) → TiesIn K H as ts
  | [],[],_,_ => .nil
  | [],_ :: _,h,_ => by simp at h
  | _ :: _,[],h,_ => by simp at h
  | v :: as,t :: ts,hl,h => by
    refine .cons ?_ (TiesIn.of (by simpa using hl) fun i hi => ?_)
    · obtain ⟨a,e,q⟩ := h 0 (by simp)
      exact ⟨a,by simpa using e,by simpa using q⟩
    · obtain ⟨a,e,q⟩ := h (i + 1) (by simpa using hi)
      exact ⟨a,by simpa using e,by simpa using q⟩
theorem TiesIn.len {K : PySem.W.Frag} {H : Hp} {as : List V} {ts : List MT.Tie} (h : TiesIn K H as ts) : as.length = ts.length := Paired.length h
theorem Inv.pair {pins : List (Addr × Obj)} {σ : St} {H : Hp} {s : Shared} {a : Addr} {x y : Int} (I : Inv X pins σ H s) (h : SqT X.K H a [.int x,.int y]) : ∃ o n t u,s.heap.get? a = some o ∧ o.cls = .type "tuple" ∧ o.data = .seq #[.int x t,.int y u] n := by
  obtain ⟨its,r,p,_⟩ := I.tuple h
  obtain ⟨u,u',rfl,⟨t,rfl⟩,⟨t',rfl⟩⟩ := Vals.two r
  obtain ⟨o,e,c,n,d⟩ := p
  exact ⟨o,n,t,t',e,c,d⟩
theorem getD_some {α : Type} {l : List α} {d x : α} {i : Nat} (h : l[i]? = some x) : l.getD i d = x := by rw [List.getD_eq_getElem?_getD,h]; rfl
theorem pairs_lt {s : Shared} {A : Around} {prog : Program} {w : World} {a b : Addr} {oa ob : Obj} {n m : Nat} {x y x' y' : Int} {t u t' u' : Tok} {C : Bool → Shared → Prop} {E : Value → Shared → Prop}
    (ha : s.heap.get? a = some oa) (da : oa.data = .seq #[.int x t,.int y u] n) (hb : s.heap.get? b = some ob) (db : ob.data = .seq #[.int x' t',.int y' u'] m) (h : C (decide (MT.tlt (x,y) (x',y'))) s) :
    wpAny (model prog w) A (keyLt' (tuples' true) (.ref a) (.ref b)) C E s := by
  refine kat_lt ha da hb db ?_
  refine kat_cons (SeqAt.EqAt.int_int x t x' t' _ _ _ _ ?_)
  by_cases e1 : x = x'
  · subst e1
    rw [beq_self_eq_true]
    refine kat_yes (kat_cons (SeqAt.EqAt.int_int y u y' u' _ _ _ _ ?_))
    by_cases e2 : y = y'
    · subst e2
      rw [beq_self_eq_true]
      refine kat_yes (kat_nil ?_)
      have z : decide (MT.tlt (x,y) (x,y)) = false := decide_eq_false (MT.tlt_irrefl _)
      rw [z] at h
      exact h
    · rw [show (y == y') = false from by simpa using e2]
      refine kat_no (kat_one _ _ (lt_int ?_))
      have z : decide (MT.tlt (x,y) (x,y')) = decide (y < y') := by
        apply decide_eq_decide.mpr
        unfold MT.tlt; dsimp only; lia
      rw [z] at h
      exact h
  · rw [show (x == x') = false from by simpa using e1]
    refine kat_no (oneLt_int ?_)
    have z : decide (MT.tlt (x,y) (x',y')) = decide (x < x') := by
      apply decide_eq_decide.mpr
      unfold MT.tlt; dsimp only; omega
    rw [z] at h
    exact h
theorem katTups_of {h : Heap} {ts : List MT.Tie} : ∀ {vs : List Value} {fs : List Value},vs.length = fs.length → (∀ (i : Nat),i < vs.length → ∃ a o xs n f,vs[i]? = some (.ref a) ∧ fs[i]? = some f ∧ h.get? a = some o ∧ o.cls = .type "tuple" ∧ o.data = .seq xs n ∧ xs[0]? = some f) → KatTups h vs fs
  | [],[],_,_ => trivial
  | [],_ :: _,h,_ => by simp at h
  | _ :: _,[],h,_ => by simp at h
  | v :: vs,f :: fs,hl,hh => by
    obtain ⟨a,o,xs,n,f',e1,e2,h1,h2,h3,h4⟩ := hh 0 (by simp)
    simp at e1 e2
    subst e1 e2
    refine KatTups.cons h1 h2 h3 h4 (katTups_of (ts:=ts) (by simpa using hl) fun i hi => ?_)
    obtain ⟨a,o,xs,n,f',e1,e2,r⟩ := hh (i + 1) (by simpa using hi)
    exact ⟨a,o,xs,n,f',by simpa using e1,by simpa using e2,r⟩
theorem call_sortedT : CallR X (.builtin "sorted") (fun xs H Q => ∃ (p : Addr) (as : List V) (ts : List MT.Tie),xs = [.ref p] ∧ SqL X.K H p as ∧ TiesIn X.K H as ts ∧ ts.length < 64 ∧
    ∀ (l : Addr) (as' : List V) (ts' : List MT.Tie),H l = none → TiesIn X.K H as' ts' → ts'.Perm ts → ts'.Pairwise MT.tle → Q (.ref l) (upd H l (.lst as'))) := by
  intro pins s σ H xs us Q I r h
  obtain ⟨p,as,ts,rfl,hq,hT,h64,q⟩ := h
  obtain ⟨u,rfl,rx⟩ := vals1 r
  cases rx
  obtain ⟨its,rv,pl,hz⟩ := I.list hq
  have l1 := rv.length
  have l2 := hT.len
  have at_ : ∀ (i : Nat),i < its.length → ∃ a o n t u,its[i]? = some (.ref a) ∧ s.heap.get? a = some o ∧ o.cls = .type "tuple" ∧ o.data = .seq #[.int (ts.getD i (0,0)).1 t,.int (ts.getD i (0,0)).2 u] n := fun i hi => by
    obtain ⟨a,e,sq⟩ := hT.get i (by omega)
    obtain ⟨o,n,t,u,h1,h2,h3⟩ := I.pair sq
    obtain ⟨v,hv,rvv⟩ := rv.get e
    cases rvv
    exact ⟨a,o,n,t,u,hv,h1,h2,h3⟩
  have mem : ∀ (i : Nat),i < its.length → ts.getD i (0,0) ∈ ts := fun i hi => by
    have hi' : i < ts.length := by omega
    rw [List.getD_eq_getElem?_getD,List.getElem?_eq_getElem hi']
    exact List.getElem_mem hi'
  refine MT.sorted_asks (r:=fun i => MT.rank ts (ts.getD i (0,0))) pl.isList (by lia) (fun h' kp h2 => ?_) fun pm hp hs => ?_
  · have fsx : ∃ fs : List Value,fs.length = its.length ∧ ∀ (i : Nat),i < its.length → ∃ a o xs n t,its[i]? = some (.ref a) ∧ fs[i]? = some (.int (ts.getD i (0,0)).1 t) ∧ s.heap.get? a = some o ∧ o.cls = .type "tuple" ∧ o.data = .seq xs n ∧ xs[0]? = some (.int (ts.getD i (0,0)).1 t) := by
      refine ⟨its.map fun v => match v with | .ref a => (match s.heap.get? a with | some o => (match o.data with | .seq xs _ => (xs[0]?).getD .none | _ => .none) | none => .none) | _ => .none,by simp,fun i hi => ?_⟩
      obtain ⟨a,o,n,t,u,e1,e2,e3,e4⟩ := at_ i hi
      refine ⟨a,o,_,n,t,e1,?_,e2,e3,e4,rfl⟩
      rw [List.getElem?_map,e1]
      simp [e2,e4]
    obtain ⟨fs,lf,hf⟩ := fsx
    refine kat_kind (T:=.type "int") (fs:=fs) (katTups_of (ts:=ts) lf.symm fun i hi => ?_) (by lia) (fun v hv => ?_) rfl ⟨rfl,fun i j C hi hj hC => ?_⟩
    · obtain ⟨a,o,xs,n,t,e1,e2,e3,e4,e5,e6⟩ := hf i hi
      exact ⟨a,o,xs,n,_,e1,e2,kp _ _ e3,e4,e5,e6⟩
    · obtain ⟨i,hi,rfl⟩ := List.mem_iff_getElem.mp hv
      obtain ⟨a,o,xs,n,t,e1,e2,_⟩ := hf i (by omega)
      rw [List.getElem?_eq_getElem hi] at e2
      rw [Option.some.inj e2]
      exact Looks.of_pure rfl
    · obtain ⟨a,oa,n,t,u,e1,e2,e3,e4⟩ := at_ i hi
      obtain ⟨b,ob,m,t',u',f1,f2,f3,f4⟩ := at_ j hj
      unfold kas_ask
      rw [getD_some e1,getD_some f1]
      refine pairs_lt (s:={ s with heap := h' }) (kp _ _ e2) e4 (kp _ _ f2) f4 ?_
      have z : MT.ltR (fun i => MT.rank ts (ts.getD i (0,0))) i j = decide (MT.tlt (ts.getD i (0,0)) (ts.getD j (0,0))) := MT.rank_lt (mem i hi) (mem j hj)
      rw [z] at hC
      exact hC
  · obtain ⟨e,he⟩ := sortedAll_at s.heap its (pm.toList.map fun i => its.getD i Value.none).toArray
    have hsz := hp.size
    have pl' : ∀ i ∈ pm.toList,i < its.length := fun i hi => by simpa using (hp.mem_iff).mp hi
    have ll : pm.toList.length = its.length := by simpa using hsz
    have vals : ∀ (l : List Nat),(∀ i ∈ l,i < its.length) → Vals (l.map fun i => as.getD i .non) (l.map fun i => its.getD i Value.none) := by
      intro l
      induction l with
      | nil => intro _; exact .nil
      | cons i l ih =>
        intro hl
        refine .cons ?_ (ih fun j hj => hl j (List.mem_cons_of_mem _ hj))
        have hi : i < its.length := hl i (by simp)
        have e1 : as[i]? = some (as[i]'(by omega)) := List.getElem?_eq_getElem (by omega)
        obtain ⟨v,hv,rvv⟩ := rv.get e1
        show RelV (as.getD i .non) (its.getD i Value.none)
        rw [getD_some e1,getD_some hv]
        exact rvv
    refine ⟨.ref (s.heap.objs.size + 1),_,I.laid (t':=s.toks) (fun _ _ => sortedAll_old) (Nat.le_succ _) (show ObjOk X.prog X.w _ _ _ (.lst (pm.toList.map fun i => as.getD i .non)) from ⟨by rw [List.length_map,ll,sizeLine_eq]; lia,_,e,vals _ pl',he⟩),rfl,
      q _ _ (pm.toList.map fun i => ts.getD i (0,0)) (I.hok.fresh (Nat.le_succ _)) ?_ ?_ ?_⟩
    · refine TiesIn.of (by simp) fun i hi => ?_
      rw [List.length_map] at hi
      have hi' : pm.toList[i]? = some (pm.toList[i]) := List.getElem?_eq_getElem hi
      obtain ⟨a,ea,sq⟩ := hT.get pm.toList[i] (by have := pl' _ (List.getElem_mem hi); lia)
      refine ⟨a,?_,?_⟩
      · rw [List.getElem?_map,hi',Option.map_some,getD_some ea]
      · have z : (pm.toList.map fun i => ts.getD i (0,0)).getD i (0,0) = ts.getD pm.toList[i] (0,0) := getD_some (by rw [List.getElem?_map,hi']; rfl)
        rw [z]; exact sq
    · have z : (pm.toList.map fun i => ts.getD i (0,0)).Perm ((List.range its.length).map fun i => ts.getD i (0,0)) := hp.map _
      rw [show its.length = ts.length by lia,MT.map_range_getD] at z
      exact z
    · rw [List.pairwise_map]
      rw [List.pairwise_iff_getElem]
      intro i j hi hj hij
      have h1 := hs i j (by lia) (by rw [← ll]; exact hj)
      unfold MT.rk at h1
      have g1 : pm.getD i 0 = pm.toList[i] := by simp [Array.getD,show i < pm.size by simpa using hi]
      have g2 : pm.getD j 0 = pm.toList[j] := by simp [Array.getD,show j < pm.size by simpa using hj]
      rw [g1,g2] at h1
      exact MT.rank_le (mem _ (pl' _ (List.getElem_mem hi))) (mem _ (pl' _ (List.getElem_mem hj))) h1
end
end L2
set_option Elab.async false
set_option maxRecDepth 100000
set_option maxHeartbeats 4000000
namespace L2
open PySem PySem.Spec PyProof.Rows
structure Blt (mg : Str → Option Value) : Prop where
  len : mg "len" = none
  range : mg "range" = none
  max : mg "max" = none
  min : mg "min" = none
  «sorted» : mg "sorted" = none
  list : mg "list" = none
  set : mg "set" = none
  all : mg "all" = none
  isinstance : mg "isinstance" = none
  int : mg "int" = none
  bool : mg "bool" = none
  abs : mg "abs" = none
abbrev EN : XK := fun _ _ _ => False
theorem pass1 {X : Cx} {P : Program} {w : World} : Passes (CX1 P w) X EN := fun _ _ _ _ _ _ _ h => by obtain ⟨_,_,_,_,_,_,_,_,_,q⟩ := h; exact q.elim
section
variable {P : Program} {w : World} {K : PySem.W.Frag} {mg : Str → Option Value} {base : Heap}
theorem Fun.ok1 {x qual : Str} {st : Stmt} {f : Addr} {fd : FuncData} {N ps : List Str} {k : Nat} {sp : Sp} (F : Fun K x qual st f fd) (S : FnScope N ps (defScope st)) (len : ∀ vs H Q E,sp vs H Q E → vs.length = ps.length)
    (hbody : ∀ (cdv : Value) (A : Around) (outer : List Env) (s : Shared) (H : Hp) (vs : List V) (Q : VK) (E : XK),Room k (A.deeper (envOfC qual (defScope st) s.heap.objs.size f cdv)) → sp vs H Q E →
      ∃ t,PSs (cxOf (CX1 P w) P w K mg base N qual (defScope st) f cdv A outer s H E) (defBody st) t ∧ t { nx := fun _ H' => Q .non H',rt := Q } (start N vs) H) : FnOk P w K mg base (CX1 P w) (k + 1) f fd ps sp := by
  obtain ⟨oc,od,kV,doc,pm,an,cdv,ct,osl,rfl,lk,hcd⟩ := F.ex
  exact fn_of lk hcd S len fun A outer s H vs Q E hr hsp => hbody cdv A outer s H vs Q E hr hsp
end
theorem Same.mk1 {H : Hp} {a : Addr} {o : HO} (h : H a = none) : Same H (L2.upd H a o) := fun b u e => by rw [upd_ne (ne_of_none e h)]; exact e
end L2
namespace Ev
open PySem (Str)
inductive D where
  | non | bl (b : Bool) | int (i : Int) | str (s : Str)
  | lst (ds : List D) | tup (ds : List D)
  | tree (n : Int) (ts : List D)
  | scr (ns : List Int)
  | exc (c : Str)
inductive Cl where
  | fl | old | dp
  deriving DecidableEq
inductive Tag where
  | new | cl (c : Cl) | own (c : Cl)
  deriving DecidableEq
inductive Res where
  | ok (d : D) (t : Tag)
  | exc (c : Str)
structure Ent where
  d : D
  own : Bool
  c : Cl
abbrev Env := List (Option Ent)
inductive R where
  | ok (d : D) | exc (c : Str)
structure Fn where
  m : List D → Option R
  fl : List Bool
abbrev FEnv := Str → Option Fn
inductive Bop where | add | sub | mul | fdiv | mod | pow
inductive Cop where | eq | ne | lt | le | gt | ge | isin | notin
inductive Blt where | len | list | lset | sorted | abs | min | max | all | int | listrange1 | listrange2 | tuple
inductive Ty where | int | bool | list | tuple | cls (c : Str)
inductive Tg where | name (i : Nat) | tup (is : List Nat)
set_option genInjectivity false in
set_option genSizeOfSpec false in
inductive Ex where
  | var (i : Nat) | int (i : Int) | bl (b : Bool) | non | str (s : Str) | glob (x : Str)
  | neg (a : Ex) | not (a : Ex)
  | bin (op : Bop) (a b : Ex)
  | cmp (op : Cop) (a b : Ex)
  | chain2 (o p : Cop) (a b c : Ex)
  | chain3 (o p q : Cop) (a b c d : Ex)
  | isK (neg : Bool) (k : Option Bool) (a : Ex)
  | and (a b : Ex) | or (a b : Ex) | ifx (c a b : Ex)
  | ix (a b : Ex)
  | slice (a : Ex) (lo hi : Option Ex)
  | fld (a : Ex) (ties : Bool)
  | lst (es : List Ex) | tup (es : List Ex)
  | compL (ix : List (Option Nat)) (tg : Tg) (src : Ex) (test : Option Ex) (elt : Ex)
  | compR (ix : List (Option Nat)) (i : Nat) (lo hi : Ex) (test : Option Ex) (elt : Ex)
  | blt (b : Blt) (es : List Ex)
  | count (a b : Ex)
  | index (a b : Ex)
  | isinst (a : Ex) (t : Ty)
  | call (f : Str) (es : List Ex)
  | fstr (a x b : Str)
set_option genInjectivity false in
set_option genSizeOfSpec false in
inductive Sx where
  | asg (i : Nat) (mu : Bool) (e : Ex)
  | unp (is : List Nat) (e : Ex)
  | par (is : List Nat) (es : List Ex)
  | setix (i : Nat) (k e : Ex)
  | app (i : Nat) (e : Ex) | ins (i : Nat) (k e : Ex)
  | ext (i : Nat) (e : Ex)
  | expr (e : Ex)
  | ret (e : Ex)
  | ifs (t : Ex) (a b : List Sx)
  | forL (tg : Tg) (src : Ex) (body : List Sx)
  | forR (i : Nat) (lo hi : Ex) (body : List Sx)
  | while_ (t : Ex) (body : List Sx)
  | raise (c : Str) (e : Ex)
  | pass
mutual
def lf : D → Bool
  | .lst _ => false
  | .tree _ _ => false
  | .tup ds => lfs ds
  | _ => true
def lfs : List D → Bool
  | [] => true
  | d :: r => lf d && lfs r
end
def Cl.join : Cl → Cl → Cl
  | .fl,.fl => .fl
  | .dp,_ => .dp
  | _,.dp => .dp
  | _,_ => .old
def Tag.el : Tag → Tag
  | .new => .new
  | .cl c => .cl c
  | .own c => .cl c
def Tag.join : Tag → Tag → Tag
  | .new,t => t
  | t,.new => t
  | .cl c,.cl d => .cl (c.join d)
  | _,_ => .own .dp
def rt (d : D) (t : Tag) : Tag := if lf d then .new else t
def rts (ds : List D) (t : Tag) : Tag := if lfs ds then .new else t
def eqFn : D → Option Bool
  | .non => some true
  | .bl _ => some false
  | .int _ => some false
  | _ => none
def eqFb (a : Bool) : D → Option Bool
  | .bl b => some (a == b)
  | .non => some false
  | _ => none
def eqFi (a : Int) : D → Option Bool
  | .int b => some (a == b)
  | .non => some false
  | _ => none
def eqF (x y : D) : Option Bool := match x with
  | .non => eqFn y
  | .bl a => eqFb a y
  | .int a => eqFi a y
  | _ => none
@[simp] theorem eqF_ii (a b : Int) : eqF (.int a) (.int b) = some (a == b) := rfl
@[simp] theorem eqF_bb (a b : Bool) : eqF (.bl a) (.bl b) = some (a == b) := rfl
def lstD : D → Option (List D)
  | .lst ds => some ds
  | _ => none
def tupD : D → Option (List D)
  | .tup ds => some ds
  | _ => none
def unc : List D → Option (D × List D)
  | [] => none
  | a :: r => some (a,r)
def eqL (f : D → D → Option Bool) : List D → List D → Option Bool
  | [],l => if l.isEmpty then some true else none
  | a :: r,l => (unc l).bind fun q => (f a q.1).bind fun x => (eqL f r q.2).map fun z => x && z
def eqStep (f : D → D → Option Bool) (x y : D) : Option Bool := match x with
  | .lst a => (lstD y).bind fun b => if a.length = b.length then eqL f a b else some false
  | .tup a => (tupD y).bind fun b => if a.length = b.length then eqL f a b else none
  | _ => eqF x y
def eqDn : Nat → D → D → Option Bool
  | 0 => eqF
  | n + 1 => eqStep (eqDn n)
def eqD (x y : D) : Option Bool := eqDn 6 x y
def toInt : D → Option Int
  | .int i => some i
  | _ => none
def toBl : D → Option Bool
  | .bl b => some b
  | _ => none
def oneOf {α : Type} : List α → Option α
  | [] => none
  | a :: r => if r.isEmpty then some a else none
def twoOf {α : Type} : List α → Option (α × α)
  | [] => none
  | a :: r => (oneOf r).map fun b => (a,b)
def toTie : D → Option (Int × Int)
  | .tup l => (twoOf l).bind fun q => (toInt q.1).bind fun a => (toInt q.2).map fun b => (a,b)
  | _ => none
def mapO {α : Type} (f : D → Option α) : List D → Option (List α)
  | [] => some []
  | d :: r => (f d).bind fun a => (mapO f r).map fun l => a :: l
def tieD (t : Int × Int) : D := .tup [.int t.1,.int t.2]
def insI (x : Int) : List Int → List Int
  | [] => [x]
  | y :: r => if x ≤ y then x :: y :: r else y :: insI x r
def isortI : List Int → List Int
  | [] => []
  | x :: r => insI x (isortI r)
def tleB (a b : Int × Int) : Bool := decide (a.1 < b.1) || (decide (a.1 = b.1) && decide (a.2 ≤ b.2))
def tltB (a b : Int × Int) : Bool := decide (a.1 < b.1) || (decide (a.1 = b.1) && decide (a.2 < b.2))
def insT (x : Int × Int) : List (Int × Int) → List (Int × Int)
  | [] => [x]
  | y :: r => if tleB x y then x :: y :: r else y :: insT x r
def isortT : List (Int × Int) → List (Int × Int)
  | [] => []
  | x :: r => insT x (isortT r)
def sortD (ds : List D) : Option (List D) :=
  if ds.length < 64 then
    match mapO toInt ds with
    | some ns => some ((isortI ns).map .int)
    | none => match mapO toTie ds with
      | some ts => some ((isortT ts).map tieD)
      | none => none
  else none
def addNew (l : List Int) (k : Int) : List Int := if l.any (· == k) then l else l ++ [k]
def dedup (ns : List Int) : List Int := ns.foldl addNew []
def distinct (ds : List D) : Option Nat :=
  if ds.length < 1000 then match mapO toInt ds with
    | some ns => some (dedup ns).length
    | none => none
  else none
def ixN (n : Nat) (i : Int) : Option Nat := if 0 ≤ i then (if i < n then some i.toNat else none) else if -(n : Int) ≤ i then some (i + n).toNat else none
def atI {α : Type} (xs : List α) (i : Int) : Option α := (ixN xs.length i).bind fun j => xs[j]?
def sIx (n d : Nat) : Option Int → Nat
  | none => d
  | some i => if i < 0 then (i + n).toNat else min i.toNat n
def cut (xs : List D) (lo hi : Option Int) : List D := (xs.drop (sIx xs.length 0 lo)).take (sIx xs.length xs.length hi - sIx xs.length 0 lo)
def rangeD (lo : Int) (n : Nat) : List D := (List.range n).map fun k : Nat => D.int (lo + (k : Int))
def smallI (i : Int) : Bool := decide (-4611686018427387904 ≤ i) && decide (i < 4611686018427387904)
def lim : Nat := 1000000
theorem iteN {c : Prop} [Decidable c] {α : Type} {o : Option α} {b : α} (h : (if c then o else none) = some b) : c ∧ o = some b := by
  by_cases hc : c
  · rw [if_pos hc] at h; exact ⟨hc,h⟩
  · rw [if_neg hc] at h; cases h
theorem toInt_eq {x : D} {i : Int} (h : toInt x = some i) : x = .int i := by
  cases x with
  | int j => cases h; rfl
  | _ => cases h
def onZ (f : Int → Int → Option D) (x y : D) : Option D := (toInt x).bind fun a => (toInt y).bind fun b => f a b
def addD : D → D → Option D
  | .int a,.int b => some (.int (a + b))
  | .lst a,.lst b => if a.length + b.length ≤ lim then some (.lst (a ++ b)) else none
  | _,_ => none
def mulD : D → D → Option D
  | .int a,.int b => if (-18446744073709551616 < a ∧ a < 18446744073709551616) ∨ (-18446744073709551616 < b ∧ b < 18446744073709551616) then some (.int (a * b)) else none
  | .lst a,.int b => if 0 ≤ b ∧ b ≤ 1000 ∧ a.length ≤ 100 then some (.lst (List.replicate b.toNat a).flatten) else none
  | _,_ => none
def binD : Bop → D → D → Option D
  | .add,x,y => addD x y
  | .sub,x,y => onZ (fun a b => some (.int (a - b))) x y
  | .mul,x,y => mulD x y
  | .fdiv,x,y => onZ (fun a b => if 0 < b ∧ b < 1073741824 then some (.int (a / b)) else none) x y
  | .mod,x,y => onZ (fun a b => if 0 < b then some (.int (a % b)) else none) x y
  | .pow,x,y => onZ (fun a b => if 0 ≤ b ∧ b ≤ 1000000 ∧ a.natAbs < 18446744073709551616 then some (.int (a ^ b.toNat)) else none) x y
@[simp] theorem onZ_int (f : Int → Int → Option D) (a b : Int) : onZ f (.int a) (.int b) = f a b := rfl
@[simp] theorem addD_int (a b : Int) : addD (.int a) (.int b) = some (.int (a + b)) := rfl
@[simp] theorem mulD_int (a b : Int) : mulD (.int a) (.int b) = if (-18446744073709551616 < a ∧ a < 18446744073709551616) ∨ (-18446744073709551616 < b ∧ b < 18446744073709551616) then some (.int (a * b)) else none := rfl
theorem onG_inv {α : Type} {f : Int → Int → Option α} {x y : D} {d : α} (h : ((toInt x).bind fun a => (toInt y).bind fun b => f a b) = some d) : ∃ i j,x = .int i ∧ y = .int j ∧ f i j = some d := by
  obtain ⟨i,hi,h1⟩ := Option.bind_eq_some_iff.mp h
  obtain ⟨j,hj,h2⟩ := Option.bind_eq_some_iff.mp h1
  exact ⟨i,j,toInt_eq hi,toInt_eq hj,h2⟩
theorem onZ_inv {f : Int → Int → Option D} {x y d : D} (h : onZ f x y = some d) : ∃ i j,x = .int i ∧ y = .int j ∧ f i j = some d := onG_inv h
def flatD : D → Bool
  | .non => true
  | .bl _ => true
  | .int _ => true
  | _ => false
def inD (x : D) : List D → Option Bool
  | [] => some false
  | d :: r => (eqF d x).bind fun a => (inD x r).map fun b => a || b
def inG (x : D) : List D → Option Bool
  | [] => some false
  | d :: r => (eqDn 5 d x).bind fun a => (inG x r).map fun b => a || b
def countD (x : D) : List D → Option Nat
  | [] => some 0
  | d :: r => (eqF d x).bind fun a => (countD x r).map fun b => if a then b + 1 else b
def idxD (x : D) : List D → Option Nat
  | [] => none
  | d :: r => (eqF d x).bind fun a => if a then some 0 else (idxD x r).map fun n => n + 1
def idxR (x : D) (ds : List D) : Option Nat := (countD x ds).bind fun _ => idxD x ds
def onZB (f : Int → Int → Bool) (x y : D) : Option Bool := (toInt x).bind fun a => (toInt y).bind fun b => some (f a b)
def ltT (a b : D) : Option Bool := (toTie a).bind fun x => (toTie b).map fun y => tltB x y
def ltD : D → D → Option Bool
  | .int a,.int b => some (decide (a < b))
  | a,b => ltT a b
def isinD (x : D) : D → Option Bool
  | .lst ds => if flatD x then inD x ds else inG x ds
  | .tup ds => if flatD x then inD x ds else none
  | _ => none
def cmpD : Cop → D → D → Option Bool
  | .eq,a,b => eqD a b
  | .ne,a,b => (eqD a b).map (!·)
  | .lt,a,b => ltD a b
  | .le,a,b => onZB (fun a b => decide (a ≤ b)) a b
  | .gt,a,b => onZB (fun a b => decide (b < a)) a b
  | .ge,a,b => onZB (fun a b => decide (b ≤ a)) a b
  | .isin,x,y => isinD x y
  | .notin,x,y => (isinD x y).map (!·)
@[simp] theorem onZB_int (f : Int → Int → Bool) (a b : Int) : onZB f (.int a) (.int b) = some (f a b) := rfl
@[simp] theorem ltD_int (a b : Int) : ltD (.int a) (.int b) = some (decide (a < b)) := rfl
theorem onZB_inv {f : Int → Int → Bool} {x y : D} {b : Bool} (h : onZB f x y = some b) : ∃ i j,x = .int i ∧ y = .int j ∧ b = f i j := by
  obtain ⟨i,j,h1,h2,h3⟩ := onG_inv (f:=fun a b => some (f a b)) h
  exact ⟨i,j,h1,h2,(Option.some.inj h3).symm⟩
theorem isinD_inv {x y : D} {b : Bool} (h : isinD x y = some b) : (∃ ds,(y = .lst ds ∨ y = .tup ds) ∧ flatD x = true ∧ inD x ds = some b) ∨ ∃ ds,y = .lst ds ∧ inG x ds = some b := by
  cases y with
  | lst ds =>
    by_cases hf : flatD x = true
    · exact .inl ⟨ds,.inl rfl,hf,(if_pos hf).symm.trans h⟩
    · exact .inr ⟨ds,rfl,(if_neg hf).symm.trans h⟩
  | tup ds => obtain ⟨h1,h2⟩ := iteN h; exact .inl ⟨ds,.inr rfl,h1,h2⟩
  | _ => cases h
theorem inG_spec {x : D} : ∀ {ds : List D} {b : Bool},inG x ds = some b → (∀ d ∈ ds,∃ a,eqDn 5 d x = some a) ∧ (b = true ↔ ∃ d ∈ ds,eqDn 5 d x = some true)
  | [],b,h => by cases h; exact ⟨fun _ h => absurd h List.not_mem_nil,Iff.intro (fun h => Bool.noConfusion h) (fun ⟨_,h,_⟩ => absurd h List.not_mem_nil)⟩
  | d :: r,b,h => by
    obtain ⟨p,hp,h0⟩ := Option.bind_eq_some_iff.mp h
    obtain ⟨q,hq,e⟩ := Option.map_eq_some_iff.mp h0
    obtain ⟨k1,k2⟩ := inG_spec hq
    refine ⟨fun y hy => (List.mem_cons.mp hy).elim (fun z => ⟨p,by rw [z]; exact hp⟩) (k1 y),?_⟩
    rw [← e,Bool.or_eq_true,k2]
    constructor
    · rintro (z | ⟨y,hy,z⟩)
      · exact ⟨d,List.mem_cons_self,by rw [hp,z]⟩
      · exact ⟨y,List.mem_cons_of_mem _ hy,z⟩
    · rintro ⟨y,hy,z⟩
      rcases List.mem_cons.mp hy with w | w
      · rw [w,hp] at z; exact .inl (Option.some.inj z)
      · exact .inr ⟨y,w,z⟩
def ixS (i : Int) : D → Option D
  | .lst ds => atI ds i
  | .tup ds => atI ds i
  | .scr ns => (atI ns i).map .int
  | _ => none
def ixD (x y : D) : Option D := (toInt y).bind fun i => ixS i x
def lenD : D → Option D
  | .lst ds => some (.int ds.length)
  | .tup ds => some (.int ds.length)
  | .scr ns => some (.int ns.length)
  | _ => none
def on1 (f : D → Option D) : List D → Option D
  | [x] => f x
  | _ => none
def on2 (f : D → D → Option D) : List D → Option D
  | [x,y] => f x y
  | _ => none
def onL (f : List D → Option D) : D → Option D
  | .lst ds => f ds
  | _ => none
def onI (f : Int → Option D) (x : D) : Option D := (toInt x).bind f
def intD : D → Option D
  | .bl b => some (.int (if b then 1 else 0))
  | .int i => some (.int i)
  | _ => none
def bltD : Blt → List D → Option D
  | .len,l => on1 lenD l
  | .list,l => on1 (onL fun ds => some (.lst ds)) l
  | .lset,l => on1 (onL fun ds => (distinct ds).map fun n => .int n) l
  | .sorted,l => on1 (onL fun ds => (sortD ds).map .lst) l
  | .abs,l => on1 (onI fun i => some (.int (if i < 0 then -i else i))) l
  | .min,l => on2 (onZ fun i j => some (.int (if j < i then j else i))) l
  | .max,l => on2 (onZ fun i j => some (.int (if j > i then j else i))) l
  | .all,l => on1 (onL fun ds => (mapO toBl ds).map fun bs => .bl (bs.all fun b => b)) l
  | .int,l => on1 intD l
  | .listrange1,l => on1 (onI fun j => if smallI j ∧ j ≤ 1000 then some (.lst (rangeD 0 j.toNat)) else none) l
  | .listrange2,l => on2 (onZ fun i j => if smallI i ∧ smallI j ∧ j - i ≤ 1000 then some (.lst (rangeD i (j - i).toNat)) else none) l
  | .tuple,l => on1 (onL fun ds => (mapO toInt ds).map fun ns => .tup (ns.map .int)) l
theorem on1_inv {f : D → Option D} {l : List D} {d : D} (h : on1 f l = some d) : ∃ x,l = [x] ∧ f x = some d := by
  match l,h with
  | [x],h => exact ⟨x,rfl,h⟩
theorem on2_inv {f : D → D → Option D} {l : List D} {d : D} (h : on2 f l = some d) : ∃ x y,l = [x,y] ∧ f x y = some d := by
  match l,h with
  | [x,y],h => exact ⟨x,y,rfl,h⟩
theorem onL_inv {f : List D → Option D} {x d : D} (h : onL f x = some d) : ∃ ds,x = .lst ds ∧ f ds = some d := by
  cases x with
  | lst ds => exact ⟨ds,rfl,h⟩
  | _ => cases h
theorem onI_inv {f : Int → Option D} {x d : D} (h : onI f x = some d) : ∃ i,x = .int i ∧ f i = some d := by
  obtain ⟨i,hi,h1⟩ := Option.bind_eq_some_iff.mp h
  exact ⟨i,toInt_eq hi,h1⟩
def tyI : D → Option Bool
  | .int _ => some true
  | .bl _ => some true
  | .non => some false
  | .lst _ => some false
  | _ => none
def tyB : D → Option Bool
  | .bl _ => some true
  | .int _ => some false
  | .lst _ => some false
  | .non => some false
  | _ => none
def tyL : D → Option Bool
  | .lst _ => some true
  | .bl _ => some false
  | .int _ => some false
  | .non => some false
  | .tup _ => some false
  | _ => none
def tyT : D → Option Bool
  | .tup _ => some true
  | .lst _ => some false
  | _ => none
def tyX (sub : Str → Str → Option Bool) (x : Str) : D → Option Bool
  | .exc c => sub c x
  | _ => none
def tyD (sub : Str → Str → Option Bool) (d : D) : Ty → Option Bool
  | .int => tyI d
  | .bool => tyB d
  | .list => tyL d
  | .tuple => tyT d
  | .cls x => tyX sub x d
def isNoneD : D → Option Bool
  | .non => some true
  | .int _ => some false
  | .lst _ => some false
  | _ => none
def isKD (k : Option Bool) (d : D) : Option Bool := match k with
  | none => isNoneD d
  | some c => (toBl d).map fun b => b == c
structure Wd where
  F : FEnv
  glob : Str → Option Int
  sub : Str → Str → Option Bool
  exn : Str → Bool
inductive Ress where
  | ok (ds : List D) (t : List Tag)
  | exc (c : Str)
def bindR (r : Option Res) (k : D → Tag → Option Res) : Option Res := match r with
  | none => none
  | some (.exc c) => some (.exc c)
  | some (.ok d t) => k d t
def bindI (o : Option (Option Res)) (k : Option Int → Option Res) : Option Res := match o with
  | none => k none
  | some r => bindR r fun x _ => match x with
    | .int i => k (some i)
    | _ => none
def blR (o : Option Bool) : Option Res := match o with
  | none => none
  | some b => some (.ok (.bl b) .new)
def keep (d : D) (t : Tag) : Option Tag := match rt d t with
  | .own _ => none
  | .cl .dp => none
  | u => some u
def entOf (d : D) : Tag → Ent
  | .new => ⟨d,false,.fl⟩
  | .cl c => ⟨d,false,c⟩
  | .own c => ⟨d,false,c⟩
def bind2 (ρ : Env) (t : Tag) (i j : Nat) : D → Option Env
  | .tup ds => match ds with
    | [a,b] => some ((ρ.set i (some (entOf a t))).set j (some (entOf b t)))
    | _ => none
  | _ => none
def bindT0 (ρ : Env) (t : Tag) (tg : Tg) (d : D) : Option Env := match tg with
  | .name i => some (ρ.set i (some (entOf d t)))
  | .tup is => match is with
    | [i,j] => bind2 ρ t i j d
    | _ => none
def bindT (ρ : Env) (t : Tag) (tg : Tg) (d : D) : Option Env := match t with
  | .cl .dp => none
  | .own .dp => none
  | _ => bindT0 ρ t tg d
def compGo (bd : D → Option Env) (tst : Env → Option Res) (el : Env → Option Res) : List D → Option (List D × Tag)
  | [] => some ([],.new)
  | d :: r => match bd d with
    | none => none
    | some ρ => match tst ρ with
      | some (.ok (.bl true) _) => match el ρ,compGo bd tst el r with
        | some (.ok x t),some (xs,u) => match keep x t with
          | some t' => some (x :: xs,t'.join u)
          | none => none
        | _,_ => none
      | some (.ok (.bl false) _) => compGo bd tst el r
      | _ => none
def compR (o : Option (List D × Tag)) : Option Res := match o with
  | some (ds,t) => some (.ok (.lst ds) t)
  | none => none
def onR (f : Int → Int → Option Res) (x y : D) : Option Res := (toInt x).bind fun a => (toInt y).bind fun b => f a b
def on1R (f : D → Option Res) : List D → Option Res
  | [] => none
  | x :: r => if r.isEmpty then f x else none
def on2R (f : D → D → Option Res) : List D → Option Res
  | [] => none
  | x :: r => on1R (f x) r
theorem on1R_inv {f : D → Option Res} {l : List D} {d : Res} (h : on1R f l = some d) : ∃ x,l = [x] ∧ f x = some d := by
  cases l with
  | nil => cases h
  | cons x r =>
    obtain ⟨hr,h1⟩ := iteN h
    exact ⟨x,by rw [List.isEmpty_iff.mp hr],h1⟩
theorem on2R_inv {f : D → D → Option Res} {l : List D} {d : Res} (h : on2R f l = some d) : ∃ x y,l = [x,y] ∧ f x y = some d := by
  cases l with
  | nil => cases h
  | cons x r =>
    obtain ⟨y,hr,h1⟩ := on1R_inv h
    exact ⟨x,y,by rw [hr],h1⟩
def stIn (ix : List (Option Nat)) (ρ : Env) : Env := ix.map fun o => match o with | some i => (ρ[i]?).getD none | none => none
def noFlow : Tag → Bool
  | .new => false
  | .cl c => decide (c = .dp)
  | .own _ => true
def flowTag : List Bool → List Tag → Option Tag
  | [],_ => some .new
  | f :: r,ts => match ts with
    | [] => some .new
    | t :: s => if f then (if noFlow t then none else (flowTag r s).map t.join) else flowTag r s
def callR (fn : Fn) (ds : List D) (ts : List Tag) : Option Res := match fn.m ds with
  | none => none
  | some (.exc c) => some (.exc c)
  | some (.ok d) => match flowTag fn.fl ts with
    | some t => some (.ok d (rt d t))
    | none => none
def joinAll : List Tag → Option Tag
  | [] => some .new
  | .own _ :: _ => none
  | .cl .dp :: _ => none
  | t :: ts => match joinAll ts with
    | some u => some (t.join u)
    | none => none
def tagL (d : D) (ts : List Tag) : Tag := match d with
  | .lst xs => rts xs (match ts with | [t] => t.el | _ => .new)
  | _ => .new
def disown (o : Option Ent) : Option Ent := match o with
  | some e => match e.c with
    | .dp => none
    | c => some ⟨e.d,false,c⟩
  | none => none
def disownAll (ρ : Env) : Env := ρ.map disown
mutual
def evE (W : Wd) (ρ : Env) : Ex → Option Res
  | .var i => match ρ[i]? with
    | some (some e) => if e.own then (match e.d with
      | .lst _ => some (.ok e.d (.own e.c))
      | _ => none
      ) else some (.ok e.d (rt e.d (.cl e.c)))
    | _ => none
  | .int i => some (.ok (.int i) .new)
  | .bl b => some (.ok (.bl b) .new)
  | .non => some (.ok .non .new)
  | .str s => some (.ok (.str s) .new)
  | .glob x => match W.glob x with
    | some i => some (.ok (.int i) .new)
    | none => none
  | .neg a => bindR (evE W ρ a) fun x _ => match x with
    | .int i => some (.ok (.int (-i)) .new)
    | _ => none
  | .not a => bindR (evE W ρ a) fun x _ => match x with
    | .bl b => some (.ok (.bl (!b)) .new)
    | _ => none
  | .bin op a b => bindR (evE W ρ a) fun x t => bindR (evE W ρ b) fun y u => match binD op x y with
    | none => none
    | some d => match d with
      | .lst ds => some (.ok d (rts ds (t.el.join u.el)))
      | _ => some (.ok d .new)
  | .cmp op a b => bindR (evE W ρ a) fun x _ => bindR (evE W ρ b) fun y _ => blR (cmpD op x y)
  | .chain2 o p a b c => bindR (evE W ρ a) fun x _ => bindR (evE W ρ b) fun y _ => match cmpD o x y with
    | some true => bindR (evE W ρ c) fun z _ => blR (cmpD p y z)
    | some false => some (.ok (.bl false) .new)
    | none => none
  | .chain3 o p q a b c d => bindR (evE W ρ a) fun x _ => bindR (evE W ρ b) fun y _ => match cmpD o x y with
    | some true => bindR (evE W ρ c) fun z _ => match cmpD p y z with
      | some true => bindR (evE W ρ d) fun v _ => blR (cmpD q z v)
      | some false => some (.ok (.bl false) .new)
      | none => none
    | some false => some (.ok (.bl false) .new)
    | none => none
  | .isK ng k a => bindR (evE W ρ a) fun x _ => match isKD k x with
    | some b => some (.ok (.bl (b != ng)) .new)
    | none => none
  | .and a b => bindR (evE W ρ a) fun x _ => match x with
    | .bl true => evE W ρ b
    | .bl false => some (.ok (.bl false) .new)
    | _ => none
  | .or a b => bindR (evE W ρ a) fun x _ => match x with
    | .bl false => evE W ρ b
    | .bl true => some (.ok (.bl true) .new)
    | _ => none
  | .ifx c a b => bindR (evE W ρ c) fun x _ => match x with
    | .bl true => evE W ρ a
    | .bl false => evE W ρ b
    | _ => none
  | .ix a b => bindR (evE W ρ a) fun x t => bindR (evE W ρ b) fun y _ => match ixD x y with
    | some d => some (.ok d (rt d t.el))
    | none => none
  | .slice a lo hi => bindR (evE W ρ a) fun x t => match x with
    | .lst ds => bindI (match lo with | some e => some (evE W ρ e) | none => none) fun l => bindI (match hi with | some e => some (evE W ρ e) | none => none) fun h => some (.ok (.lst (cut ds l h)) (rts (cut ds l h) t.el))
    | _ => none
  | .fld a tf => bindR (evE W ρ a) fun x t => match x,tf with
    | .tree n _,false => some (.ok (.int n) .new)
    | .tree _ ts,true => some (.ok (.lst ts) t.el)
    | _,_ => none
  | .lst es => match evEs W ρ es with
    | some (.ok ds ts) => (match joinAll ts with
      | some u => if ds.length ≤ 1000 then some (.ok (.lst ds) (rts ds u)) else none
      | none => none)
    | some (.exc c) => some (.exc c)
    | none => none
  | .tup es => match evEs W ρ es with
    | some (.ok ds ts) => (match joinAll ts with
      | some u => if ds.length ≤ 1000 then some (.ok (.tup ds) (rts ds u)) else none
      | none => none)
    | some (.exc c) => some (.exc c)
    | none => none
  | .compL ix tg src tst el => bindR (evE W ρ src) fun x t => match x with
    | .lst ds => compR (compGo (bindT (stIn ix ρ) t.el tg) (fun ρ' => match tst with | some e => evE W ρ' e | none => some (.ok (.bl true) .new)) (fun ρ' => evE W ρ' el) ds)
    | _ => none
  | .compR ix i lo hi tst el => bindR (evE W ρ lo) fun x _ => bindR (evE W ρ hi) fun y _ => onR (fun a b => if smallI a ∧ smallI b ∧ b - a ≤ 1000 then
        compR (compGo (bindT (stIn ix ρ) .new (.name i)) (fun ρ' => match tst with | some e => evE W ρ' e | none => some (.ok (.bl true) .new)) (fun ρ' => evE W ρ' el) (rangeD a (b - a).toNat))
      else none) x y
  | .blt b es => match evEs W ρ es with
    | some (.ok ds ts) => (match bltD b ds with
      | some d => some (.ok d (tagL d ts))
      | none => none)
    | some (.exc c) => some (.exc c)
    | none => none
  | .count a b => bindR (evE W ρ a) fun x _ => match x with
    | .lst ds => bindR (evE W ρ b) fun y _ => if flatD y then (match countD y ds with
      | some n => some (.ok (.int n) .new)
      | none => none) else none
    | _ => none
  | .index a b => bindR (evE W ρ a) fun x _ => match x with
    | .lst ds => bindR (evE W ρ b) fun y _ => if flatD y then (match idxR y ds with
      | some n => some (.ok (.int n) .new)
      | none => none) else none
    | _ => none
  | .isinst a ty => bindR (evE W ρ a) fun x _ => blR (tyD W.sub x ty)
  | .call f es => match W.F f with
    | some fn => (match evEs W ρ es with
      | some (.ok ds ts) => callR fn ds ts
      | some (.exc c) => some (.exc c)
      | none => none)
    | none => none
  | .fstr a x b => match W.glob x with
    | some i => if i.natAbs < 1000000 ∧ (((Str.empty ++ a) ++ (toString i : String)) ++ b).length ≤ 100000 ∧ ((Str.empty ++ a) ++ (toString i : String)).length ≤ 100000 ∧ (Str.empty ++ a).length ≤ 100000 then some (.ok (.str (((Str.empty ++ a) ++ (toString i : String)) ++ b)) .new) else none
    | none => none
def evEs (W : Wd) (ρ : Env) : List Ex → Option Ress
  | [] => some (.ok [] [])
  | e :: r => match evE W ρ e with
    | some (.ok d t) => (match evEs W ρ r with
      | some (.ok ds ts) => some (.ok (d :: ds) (t :: ts))
      | some (.exc c) => some (.exc c)
      | none => none)
    | some (.exc c) => some (.exc c)
    | none => none
end
def tagB (d : D) (t u : Tag) : Tag := match d with
  | .lst ds => rts ds (t.el.join u.el)
  | _ => .new
def runT (W : Wd) (ρ : Env) (tst : Option Ex) : Option Res := match tst with
  | some e => evE W ρ e
  | none => some (.ok (.bl true) .new)
set_option smartUnfolding false in
theorem E_cL {W : Wd} {ρ : Env} {ix : List (Option Nat)} {tg : Tg} {src el : Ex} {tst : Option Ex} : evE W ρ (.compL ix tg src tst el) = bindR (evE W ρ src) fun x t => match x with
    | .lst ds => compR (compGo (bindT (stIn ix ρ) t.el tg) (fun ρ' => runT W ρ' tst) (fun ρ' => evE W ρ' el) ds)
    | _ => none := by cases tst <;> exact rfl
set_option smartUnfolding false in
theorem E_cR {W : Wd} {ρ : Env} {ix : List (Option Nat)} {i : Nat} {lo hi el : Ex} {tst : Option Ex} : evE W ρ (.compR ix i lo hi tst el) = bindR (evE W ρ lo) fun x _ => bindR (evE W ρ hi) fun y _ => onR (fun a b => if smallI a ∧ smallI b ∧ b - a ≤ 1000 then
        compR (compGo (bindT (stIn ix ρ) .new (.name i)) (fun ρ' => runT W ρ' tst) (fun ρ' => evE W ρ' el) (rangeD a (b - a).toNat))
      else none) x y := by cases tst <;> exact rfl
def opE (W : Wd) (ρ : Env) (o : Option Ex) : Option (Option Res) := match o with
  | some e => some (evE W ρ e)
  | none => none
set_option smartUnfolding false in
theorem E_sl {W : Wd} {ρ : Env} {a : Ex} {lo hi : Option Ex} : evE W ρ (.slice a lo hi) = bindR (evE W ρ a) fun x t => match x with
    | .lst ds => bindI (opE W ρ lo) fun l => bindI (opE W ρ hi) fun h => some (.ok (.lst (cut ds l h)) (rts (cut ds l h) t.el))
    | _ => none := by cases lo <;> cases hi <;> exact rfl
theorem Es_c {W : Wd} {ρ : Env} {e : Ex} {r : List Ex} : evEs W ρ (e :: r) = (match evE W ρ e with
    | some (.ok d t) => (match evEs W ρ r with
      | some (.ok ds ts) => some (.ok (d :: ds) (t :: ts))
      | some (.exc c) => some (.exc c)
      | none => none)
    | some (.exc c) => some (.exc c)
    | none => none) := rfl
end Ev
namespace Ev
open PySem (Str)
inductive Out where
  | nx (ρ : Env)
  | rt (d : D) (t : Tag)
  | exc (c : Str)
def loose2 : List D → Option (List D × Nat)
  | [] => none
  | a :: r => (lstD a).bind fun ds => match r with
    | [] => none
    | b :: _ => (toInt b).bind fun n => if 0 ≤ n then some (ds,n.toNat) else none
def looseOf : D → Option (List D × Nat)
  | .lst ds => some (ds,0)
  | .tup l => loose2 l
  | _ => none
def tagC0 (c : Cl) : Tag → Option Cl
  | .new => some c
  | .cl .dp => none
  | .cl d => some (c.join d)
  | .own _ => none
def tagC (c : Cl) (t : Tag) : Option Cl := match c with
  | .dp => none
  | c => tagC0 c t
def setAll (ρ : Env) : List Nat → List D → Tag → Option Env
  | [],[],_ => some ρ
  | i :: is,d :: ds,t => setAll (ρ.set i (some (entOf d t))) is ds t
  | _,_,_ => none
def setEach (ρ : Env) : List Nat → List D → List Tag → Option Env
  | [],[],[] => some ρ
  | i :: is,d :: ds,t :: ts => match keep d t with
    | some t' => setEach (ρ.set i (some (entOf d t'))) is ds ts
    | none => none
  | _,_,_ => none
def forGo (body : Env → Option Out) (bd : Env → D → Option Env) : List D → Env → Option Out
  | [],ρ => some (.nx ρ)
  | d :: r,ρ => match bd ρ d with
    | none => none
    | some ρ1 => match body ρ1 with
      | some (.nx ρ2) => forGo body bd r ρ2
      | some (.rt d t) => some (.rt d t)
      | _ => none
def whGo (t : Env → Option Res) (body : Env → Option Out) : Nat → Env → Option Out
  | 0,_ => none
  | n + 1,ρ => match t ρ with
    | some (.ok (.bl true) _) => match body ρ with
      | some (.nx ρ2) => whGo t body n ρ2
      | some (.rt d t) => some (.rt d t)
      | _ => none
    | some (.ok (.bl false) _) => some (.nx ρ)
    | _ => none
def bindO (r : Option Res) (k : D → Tag → Option Out) : Option Out := match r with
  | none => none
  | some (.exc c) => some (.exc c)
  | some (.ok d t) => k d t
def bindS (r : Option Out) (k : Env → Option Out) : Option Out := match r with
  | some (.nx ρ) => k ρ
  | o => o
mutual
def evS (W : Wd) (ρ : Env) : Sx → Option Out
  | .asg i mu e => bindO (evE W ρ e) fun d t => match t with
    | .new => match d with
      | .lst ds => some (.nx (ρ.set i (some ⟨.lst ds,mu && lfs ds,.fl⟩)))
      | _ => some (.nx (ρ.set i (some ⟨d,false,.fl⟩)))
    | .cl c => match c with
      | .dp => none
      | c => some (.nx (ρ.set i (some ⟨d,false,c⟩)))
    | .own c => match c with
      | .dp => none
      | c => some (.nx ((disownAll ρ).set i (some ⟨d,false,c⟩)))
  | .unp is e => bindO (evE W ρ e) fun d t => match d with
    | .tup ds => match t with
      | .own _ => none
      | .cl .dp => none
      | t => match setAll ρ is ds t with
        | some ρ1 => some (.nx ρ1)
        | none => none
    | _ => none
  | .par is es => match evEs W ρ es with
    | some (.ok ds ts) => match setEach ρ is ds ts with
      | some ρ1 => some (.nx ρ1)
      | none => none
    | some (.exc c) => some (.exc c)
    | none => none
  | .setix i k e => bindO (evE W ρ e) fun d t => match ρ[i]? with
    | some (some ⟨.lst ds,true,c⟩) => bindO (evE W ρ k) fun j _ => match j with
      | .int n => match ixN ds.length n,tagC c (Ev.rt d t) with
        | some m,some c' => some (.nx (ρ.set i (some ⟨.lst (ds.set m d),true,c'⟩)))
        | _,_ => none
      | _ => none
    | _ => none
  | .app i e => match ρ[i]? with
    | some (some ⟨.lst ds,true,c⟩) => bindO (evE W ρ e) fun d t => match tagC c (Ev.rt d t) with
      | some c' => if ds.length < lim then some (.nx (ρ.set i (some ⟨.lst (ds ++ [d]),true,c'⟩))) else none
      | none => none
    | _ => none
  | .ext i e => match ρ[i]? with
    | some (some ⟨.lst ds,true,c⟩) => bindO (evE W ρ e) fun d t => match d with
      | .lst xs => match tagC c (rts xs t.el) with
        | some c' => if ds.length + xs.length ≤ lim then some (.nx (ρ.set i (some ⟨.lst (ds ++ xs),true,c'⟩))) else none
        | none => none
      | _ => none
    | _ => none
  | .ins i k e => match ρ[i]? with
    | some (some ⟨.lst ds,true,c⟩) => bindO (evE W ρ k) fun j _ => bindO (evE W ρ e) fun d t => match j with
      | .int n => match tagC c (Ev.rt d t) with
        | some c' => if 0 ≤ n ∧ n ≤ (ds.length : Int) ∧ ds.length < lim then some (.nx (ρ.set i (some ⟨.lst (ds.take n.toNat ++ d :: ds.drop n.toNat),true,c'⟩))) else none
        | none => none
      | _ => none
    | _ => none
  | .expr e => bindO (evE W ρ e) fun _ _ => some (.nx ρ)
  | .ret e => bindO (evE W (disownAll ρ) e) fun d t => some (.rt d (Ev.rt d t))
  | .ifs t a b => bindO (evE W ρ t) fun d _ => match d with
    | .bl true => evSs W ρ a
    | .bl false => evSs W ρ b
    | _ => none
  | .forL tg src body => match evE W ρ src with
    | some (.ok (.lst ds) t) => if t.el = .cl .dp then none else forGo (fun ρ' => evSs W ρ' body) (fun ρ' x => bindT ρ' t.el tg x) ds (match t with | .own _ => disownAll ρ | _ => ρ)
    | _ => none
  | .forR i lo hi body => match evE W ρ lo,evE W ρ hi with
    | some (.ok (.int a) _),some (.ok (.int b) _) => if smallI a ∧ smallI b then forGo (fun ρ' => evSs W ρ' body) (fun ρ' x => bindT ρ' .new (.name i) x) (rangeD a (b - a).toNat) ρ else none
    | _,_ => none
  | .while_ t body => whGo (fun ρ' => evE W ρ' t) (fun ρ' => evSs W ρ' body) 64 ρ
  | .raise c e => if W.exn c then bindO (evE W ρ e) fun _ _ => some (.exc c) else none
  | .pass => some (.nx ρ)
def evSs (W : Wd) (ρ : Env) : List Sx → Option Out
  | [] => some (.nx ρ)
  | s :: r => bindS (evS W ρ s) fun ρ1 => evSs W ρ1 r
end
def entsOf : List Bool → List D → Env
  | f :: fs,d :: ds => some ⟨d,false,if f then .fl else .old⟩ :: entsOf fs ds
  | [],d :: ds => some ⟨d,false,.old⟩ :: entsOf [] ds
  | _,[] => []
def endR : Option Out → Option R
  | some (.nx _) => some (.ok .non)
  | some (.rt d t) => match t with
    | .new => some (.ok d)
    | .cl .fl => some (.ok d)
    | _ => none
  | some (.exc c) => some (.exc c)
  | none => none
def evFn (W : Wd) (n : Nat) (fl : List Bool) (body : List Sx) (ds : List D) : Option R :=
  endR (evSs W (entsOf fl ds ++ List.replicate (n - ds.length) none) body)
open PySem in
def kindIn (sc : List (Str × NameKind)) (x : Str) : Option NameKind := sc.lookup x
def okName (x : Str) : Bool := !(x == ("__debug__" : Str)) && (!(x == ("__classdict__" : Str)) && !(decide (x = ("__name__" : Str))))
open PySem in
def isVis (sc : List (Str × NameKind)) (x : Str) : Bool := okName x && match kindIn sc x with
  | some .local => true
  | some .cell => true
  | some .free => true
  | _ => false
open PySem in
def isLoc (sc : List (Str × NameKind)) (x : Str) : Bool := match kindIn sc x with
  | some .local => true
  | some .cell => true
  | _ => false
open PySem in
def isGl (sc : List (Str × NameKind)) (x : Str) : Bool := okName x && match kindIn sc x with
  | some .globalImplicit => true
  | _ => false
def slot : List Str → Str → Option Nat
  | [],_ => none
  | y :: r,x => if y = x then some 0 else (slot r x).map (· + 1)
def trs {α β : Type} (f : α → Option β) : List α → Option (List β)
  | [] => some []
  | a :: r => match f a,trs f r with
    | some b,some l => some (b :: l)
    | _,_ => none
open PySem in
def trOp : Operator → Option Bop
  | .Add => some .add
  | .Sub => some .sub
  | .Mult => some .mul
  | .FloorDiv => some .fdiv
  | .Mod => some .mod
  | .Pow => some .pow
  | _ => none
open PySem in
def trC : CmpOp → Option Cop
  | .Eq => some .eq
  | .NotEq => some .ne
  | .Lt => some .lt
  | .LtE => some .le
  | .Gt => some .gt
  | .GtE => some .ge
  | .In => some .isin
  | .NotIn => some .notin
  | _ => none
def trB (x : Str) : Option Blt :=
  if x = "len" then some .len else if x = "list" then some .list else if x = "sorted" then some .sorted else if x = "abs" then some .abs else if x = "min" then some .min
  else if x = "max" then some .max else if x = "all" then some .all else if x = "tuple" then some .tuple else if x = "int" then some .int else none
def exNames : List Str := ["BadTree","BadMarks","NotGood","NoBound","NoComb","TieError","ValueError"]
def trTyO (x : Str) : Option Ty := if x ∈ exNames then some (.cls x) else none
def trTyB (x : Str) : Option Ty := if x = "int" then some .int else if x = "bool" then some .bool else if x = "list" then some .list else if x = "tuple" then some .tuple else trTyO x
def inNames (scope : List (Str × PySem.NameKind)) : List Str := (scope.filter fun p => match p.2 with | .local => true | .free => true | _ => false).map (·.1)
def inIx (N : List Str) (scope : List (Str × PySem.NameKind)) (N' : List Str) : List (Option Nat) := N'.map fun x => match kindIn scope x with | some .free => slot N x | _ => none
def nodupB : List Str → Bool
  | [] => true
  | x :: r => !(r.contains x) && nodupB r
def okBlock (sc scope : List (Str × PySem.NameKind)) : Bool :=
  scope.all fun p => match p.2 with
    | .cell => false
    | .local => match kindIn scope p.1 with | some .local => true | _ => false
    | .free => match kindIn sc p.1,kindIn scope p.1 with | some .cell,some .free => true | some .free,some .free => true | _,_ => false
    | .globalImplicit => true
    | _ => false
theorem lcons {α : Type} {l : List α} {n : Nat} (h : l.length = n + 1) : ∃ a r,l = a :: r ∧ r.length = n := by
  cases l with
  | nil => cases h
  | cons a r => exact ⟨a,r,rfl,Nat.succ.inj h⟩
theorem lnil {α : Type} {l : List α} (h : l.length = 0) : l = [] := List.length_eq_zero_iff.mp h
theorem len1 {α : Type} {l : List α} (h : l.length = 1) : ∃ a,l = [a] := by
  obtain ⟨a,r,rfl,h1⟩ := lcons h
  cases lnil h1
  exact ⟨a,rfl⟩
theorem len2 {α : Type} {l : List α} (h : l.length = 2) : ∃ a b,l = [a,b] := by
  obtain ⟨a,r,rfl,h1⟩ := lcons h
  obtain ⟨b,rfl⟩ := len1 h1
  exact ⟨a,b,rfl⟩
theorem len3 {α : Type} {l : List α} (h : l.length = 3) : ∃ a b c,l = [a,b,c] := by
  obtain ⟨a,r,rfl,h1⟩ := lcons h
  obtain ⟨b,c,rfl⟩ := len2 h1
  exact ⟨a,b,c,rfl⟩
theorem len4 {α : Type} {l : List α} (h : l.length = 4) : ∃ a b c d,l = [a,b,c,d] := by
  obtain ⟨a,r,rfl,h1⟩ := lcons h
  obtain ⟨b,c,d,rfl⟩ := len3 h1
  exact ⟨a,b,c,d,rfl⟩
theorem bndI {α β : Type} {o : Option α} {f : α → Option β} {b : β} (h : o.bind f = some b) : ∃ a,o = some a ∧ f a = some b := Option.bind_eq_some_iff.mp h
theorem mapI {α β : Type} {o : Option α} {f : α → β} {b : β} (h : o.map f = some b) : ∃ a,o = some a ∧ f a = b := Option.map_eq_some_iff.mp h
def alt {α β : Type} (o : Option α) (k : α → Option β) (d : Option β) : Option β := match o with
  | some a => k a
  | none => d
theorem altI {α β : Type} {o : Option α} {k : α → Option β} {d : Option β} {b : β} (h : alt o k d = some b) : (∃ a,k a = some b) ∨ d = some b := by
  cases o with
  | some a => exact .inl ⟨a,h⟩
  | none => exact .inr h
open PySem in
def vName (e : Expr) : Option { q : Str × Pos // e = .Name q.1 q.2 } := match e with
  | .Name a0 a1 => some ⟨(a0,a1),rfl⟩
  | _ => none
open PySem in
def vConst (e : Expr) : Option { q : Const × Nat × Pos // e = .Constant q.1 q.2.1 q.2.2 } := match e with
  | .Constant a0 a1 a2 => some ⟨(a0,a1,a2),rfl⟩
  | _ => none
open PySem in
def vUn (e : Expr) : Option { q : UnaryOp × Expr × Pos // e = .UnaryOp q.1 q.2.1 q.2.2 } := match e with
  | .UnaryOp a0 a1 a2 => some ⟨(a0,a1,a2),rfl⟩
  | _ => none
open PySem in
def vBin (e : Expr) : Option { q : Expr × Operator × Expr × Pos // e = .BinOp q.1 q.2.1 q.2.2.1 q.2.2.2 } := match e with
  | .BinOp a0 a1 a2 a3 => some ⟨(a0,a1,a2,a3),rfl⟩
  | _ => none
open PySem in
def vCmp (e : Expr) : Option { q : Expr × List CmpOp × List Expr × Pos // e = .Compare q.1 q.2.1 q.2.2.1 q.2.2.2 } := match e with
  | .Compare a0 a1 a2 a3 => some ⟨(a0,a1,a2,a3),rfl⟩
  | _ => none
open PySem in
def vBool (e : Expr) : Option { q : BoolOp × List Expr × Pos // e = .BoolOp q.1 q.2.1 q.2.2 } := match e with
  | .BoolOp a0 a1 a2 => some ⟨(a0,a1,a2),rfl⟩
  | _ => none
open PySem in
def vIf (e : Expr) : Option { q : Expr × Expr × Expr × Pos // e = .IfExp q.1 q.2.1 q.2.2.1 q.2.2.2 } := match e with
  | .IfExp a0 a1 a2 a3 => some ⟨(a0,a1,a2,a3),rfl⟩
  | _ => none
open PySem in
def vSub (e : Expr) : Option { q : Expr × Expr × Pos // e = .Subscript q.1 q.2.1 q.2.2 } := match e with
  | .Subscript a0 a1 a2 => some ⟨(a0,a1,a2),rfl⟩
  | _ => none
open PySem in
def vAttr (e : Expr) : Option { q : Expr × Str × Pos // e = .Attribute q.1 q.2.1 q.2.2 } := match e with
  | .Attribute a0 a1 a2 => some ⟨(a0,a1,a2),rfl⟩
  | _ => none
open PySem in
def vList (e : Expr) : Option { q : List Expr × Pos // e = .List q.1 q.2 } := match e with
  | .List a0 a1 => some ⟨(a0,a1),rfl⟩
  | _ => none
open PySem in
def vTup (e : Expr) : Option { q : List Expr × Nat × Pos // e = .Tuple q.1 q.2.1 q.2.2 } := match e with
  | .Tuple a0 a1 a2 => some ⟨(a0,a1,a2),rfl⟩
  | _ => none
open PySem in
def vComp (e : Expr) : Option { q : Expr × List Comprehension × Scope × Pos // e = .ListComp q.1 q.2.1 q.2.2.1 q.2.2.2 } := match e with
  | .ListComp a0 a1 a2 a3 => some ⟨(a0,a1,a2,a3),rfl⟩
  | _ => none
open PySem in
def vCall (e : Expr) : Option { q : Expr × List Expr × List Keyword × Pos // e = .Call q.1 q.2.1 q.2.2.1 q.2.2.2 } := match e with
  | .Call a0 a1 a2 a3 => some ⟨(a0,a1,a2,a3),rfl⟩
  | _ => none
open PySem in
def vJoin (e : Expr) : Option { q : List Expr × Pos // e = .JoinedStr q.1 q.2 } := match e with
  | .JoinedStr a0 a1 => some ⟨(a0,a1),rfl⟩
  | _ => none
open PySem in
def vSlice (e : Expr) : Option { q : Option Expr × Option Expr × Option Expr × Pos // e = .Slice q.1 q.2.1 q.2.2.1 q.2.2.2 } := match e with
  | .Slice a0 a1 a2 a3 => some ⟨(a0,a1,a2,a3),rfl⟩
  | _ => none
open PySem in
def vFmt (e : Expr) : Option { q : Expr × Int × Option Expr × Pos // e = .FormattedValue q.1 q.2.1 q.2.2.1 q.2.2.2 } := match e with
  | .FormattedValue a0 a1 a2 a3 => some ⟨(a0,a1,a2,a3),rfl⟩
  | _ => none
open PySem in
def sAsg (e : Stmt) : Option { q : List Expr × Expr × Pos // e = .Assign q.1 q.2.1 q.2.2 } := match e with
  | .Assign a0 a1 a2 => some ⟨(a0,a1,a2),rfl⟩
  | _ => none
open PySem in
def sExpr (e : Stmt) : Option { q : Expr × Pos // e = .Expr q.1 q.2 } := match e with
  | .Expr a0 a1 => some ⟨(a0,a1),rfl⟩
  | _ => none
open PySem in
def sRet (e : Stmt) : Option { q : Option Expr × Pos // e = .Return q.1 q.2 } := match e with
  | .Return a0 a1 => some ⟨(a0,a1),rfl⟩
  | _ => none
open PySem in
def sIf (e : Stmt) : Option { q : Expr × List Stmt × List Stmt × Pos // e = .If q.1 q.2.1 q.2.2.1 q.2.2.2 } := match e with
  | .If a0 a1 a2 a3 => some ⟨(a0,a1,a2,a3),rfl⟩
  | _ => none
open PySem in
def sFor (e : Stmt) : Option { q : Expr × Expr × List Stmt × List Stmt × Pos // e = .For q.1 q.2.1 q.2.2.1 q.2.2.2.1 q.2.2.2.2 } := match e with
  | .For a0 a1 a2 a3 a4 => some ⟨(a0,a1,a2,a3,a4),rfl⟩
  | _ => none
open PySem in
def sWhile (e : Stmt) : Option { q : Expr × List Stmt × List Stmt × Pos // e = .While q.1 q.2.1 q.2.2.1 q.2.2.2 } := match e with
  | .While a0 a1 a2 a3 => some ⟨(a0,a1,a2,a3),rfl⟩
  | _ => none
open PySem in
def sRaise (e : Stmt) : Option { q : Option Expr × Option Expr × Pos // e = .Raise q.1 q.2.1 q.2.2 } := match e with
  | .Raise a0 a1 a2 => some ⟨(a0,a1,a2),rfl⟩
  | _ => none
open PySem in
def sPass (e : Stmt) : Option { q : Pos // e = .Pass q } := match e with
  | .Pass a0 => some ⟨a0,rfl⟩
  | _ => none
theorem oneOf_eq {α : Type} {l : List α} {a : α} (h : oneOf l = some a) : l = [a] := by
  cases l with
  | nil => cases h
  | cons b r =>
    obtain ⟨hr,h⟩ := iteN h
    cases h
    cases r with
    | nil => rfl
    | cons => cases hr
theorem twoOf_eq {α : Type} {l : List α} {q : α × α} (h : twoOf l = some q) : l = [q.1,q.2] := by
  cases l with
  | nil => cases h
  | cons a r =>
    obtain ⟨b,hb,rfl⟩ := mapI h
    rw [oneOf_eq hb]
theorem lstD_eq {d : D} {l : List D} (h : lstD d = some l) : d = .lst l := by
  cases d with
  | lst j => cases h; rfl
  | _ => cases h
theorem tupD_eq {d : D} {l : List D} (h : tupD d = some l) : d = .tup l := by
  cases d with
  | tup j => cases h; rfl
  | _ => cases h
theorem unc_eq {l : List D} {q : D × List D} (h : unc l = some q) : l = q.1 :: q.2 := by
  cases l with
  | nil => cases h
  | cons a r => cases h; rfl
theorem eqS_inv {f : D → D → Option Bool} {x y : D} {b : Bool} (h : eqStep f x y = some b) : eqF x y = some b ∨ (∃ a c,x = .lst a ∧ y = .lst c ∧ ((a.length = c.length ∧ eqL f a c = some b) ∨ (¬ a.length = c.length ∧ b = false))) ∨ ∃ a c,x = .tup a ∧ y = .tup c ∧ a.length = c.length ∧ eqL f a c = some b := by
  cases x with
  | lst a =>
    obtain ⟨c,hc,h1⟩ := bndI h
    refine .inr (.inl ⟨a,c,rfl,lstD_eq hc,?_⟩)
    by_cases hl : a.length = c.length
    · rw [if_pos hl] at h1; exact .inl ⟨hl,h1⟩
    · rw [if_neg hl] at h1; exact .inr ⟨hl,(Option.some.inj h1).symm⟩
  | tup a =>
    obtain ⟨c,hc,h1⟩ := bndI h
    obtain ⟨hl,h2⟩ := iteN h1
    exact .inr (.inr ⟨a,c,rfl,tupD_eq hc,hl,h2⟩)
  | _ => exact .inl h
theorem toTie_eq {d : D} {p : Int × Int} (h : toTie d = some p) : d = tieD p := by
  cases d with
  | tup l =>
    obtain ⟨q,hq,h1⟩ := bndI h
    obtain ⟨a,ha,h2⟩ := bndI h1
    obtain ⟨b,hb,e⟩ := mapI h2
    rw [twoOf_eq hq,toInt_eq ha,toInt_eq hb,← e]; rfl
  | _ => cases h
theorem toBl_eq {d : D} {b : Bool} (h : toBl d = some b) : d = .bl b := by
  cases d with
  | bl j => cases h; rfl
  | _ => cases h
theorem emp_eq {α : Type} {l : List α} (h : l.isEmpty = true) : l = [] := List.isEmpty_iff.mp h
open PySem in
def nameOf (e : Expr) : Option Str := (vName e).map fun q => q.1.1
open PySem in
theorem nameOf_eq {a : Expr} {x : Str} (h : nameOf a = some x) : ∃ p,a = .Name x p := by
  obtain ⟨q,_,rfl⟩ := mapI h
  exact ⟨q.1.2,q.2⟩
def tg2 (N : List Str) (sc : List (Str × PySem.NameKind)) (x y : Str) : Option Tg := if isLoc sc x && isLoc sc y then (slot N x).bind fun i => (slot N y).bind fun j => if i = j then none else some (.tup [i,j]) else none
open PySem in
def tgs2 (N : List Str) (sc : List (Str × NameKind)) (es : List Expr) : Option Tg := (twoOf es).bind fun q => (nameOf q.1).bind fun x => (nameOf q.2).bind fun y => tg2 N sc x y
open PySem in
def trTg (N : List Str) (sc : List (Str × NameKind)) (e : Expr) : Option Tg := alt (vName e) (fun q => if isLoc sc q.1.1 then (slot N q.1.1).map .name else none) ((vTup e).bind fun q => tgs2 N sc q.1.1)
section
open PySem
abbrev Go := Expr → Option Ex
def trName (N : List Str) (sc : List (Str × NameKind)) (x : Str) : Option Ex := if isVis sc x then (slot N x).map .var else if isGl sc x then some (.glob x) else none
def trConst : Const → Option Ex
  | .int i => some (.int i)
  | .bool b => some (.bl b)
  | .none => some .non
  | .str s => some (.str s)
  | _ => none
def trUn (op : UnaryOp) (r : Option Ex) : Option Ex := match op with
  | .USub => r.map .neg
  | .Not => r.map .not
  | _ => none
def noneC : Const → Bool
  | .none => true
  | _ => false
def isNone (e : Expr) : Bool := match vConst e with
  | some q => noneC q.1.1
  | none => false
def trCmp1 (go : Go) (a : Expr) (o : CmpOp) (b : Expr) : Option Ex := match trC o,go a,go b with
  | some o,some x,some y => some (.cmp o x y)
  | _,_,_ => none
def trCmpA (go : Go) (a : Expr) (o : CmpOp) (b : Expr) : Option Ex := match o with
  | .Is => if isNone b then (go a).map (.isK false none) else none
  | .IsNot => if isNone b then (go a).map (.isK true none) else
    none
  | o => trCmp1 go a o b
def trCmpB (go : Go) (a : Expr) (o p : CmpOp) (b c : Expr) : Option Ex := match trC o,trC p with
  | some o,some p => match go a,go b,go c with
    | some x,some y,some z => some (.chain2 o p x y z)
    | _,_,_ => none
  | _,_ => none
def trCmpC (go : Go) (a : Expr) (o p q : CmpOp) (b c d : Expr) : Option Ex := match trC o,trC p,trC q with
  | some o,some p,some q => match go a,go b with
    | some x,some y => match go c,go d with
      | some z,some v => some (.chain3 o p q x y z v)
      | _,_ => none
    | _,_ => none
  | _,_,_ => none
def trCmp (go : Go) (a : Expr) (os : List CmpOp) (es : List Expr) : Option Ex := match os with
  | [o] => (match es with | [b] => trCmpA go a o b | _ => none)
  | [o,p] => (match es with | [b,c] => trCmpB go a o p b c | _ => none)
  | [o,p,q] => (match es with | [b,c,d] => trCmpC go a o p q b c d | _ => none)
  | _ => none
def trBool (go : Go) (op : BoolOp) : List Expr → Option Ex
  | [] => none
  | [a] => go a
  | a :: b :: r => match go a,trBool go op (b :: r) with
    | some x,some y => match op with
      | .And => some (.and x y)
      | .Or => some (.or x y)
    | _,_ => none
def trO (go : Go) : Option Expr → Option (Option Ex)
  | none => some none
  | some e => (go e).map some
def trSl (go : Go) (a : Expr) (lo hi st : Option Expr) : Option Ex := if st.isNone then (go a).bind fun x => (trO go lo).bind fun l => (trO go hi).map fun h => .slice x l h else none
def trSub (go : Go) (a b : Expr) : Option Ex := match vSlice b with
  | some q => trSl go a q.1.1 q.1.2.1 q.1.2.2.1
  | none => (go a).bind fun x => (go b).map fun y => .ix x y
def okBase (e : Expr) : Bool := (vName e).isSome || ((vSub e).isSome || (vList e).isSome)
def trAttr (go : Go) (a : Expr) (f : Str) : Option Ex := if okBase a then match go a with
    | some y => if f = "many" then some (.fld y false) else if f = "ties" then some (.fld y true) else none
    | none => none
  else none
def trIfs (go : Go) : List Expr → Option (Option Ex)
  | [] => some none
  | [c] => (go c).map some
  | _ => none
def callOf (e : Expr) : Option (Str × List Expr) := (vCall e).bind fun q => if q.1.2.2.1.isEmpty then (nameOf q.1.1).map fun x => (x,q.1.2.1) else none
theorem callOf_eq {e : Expr} {q : Str × List Expr} (h : callOf e = some q) : ∃ p1 p2,e = .Call (.Name q.1 p1) q.2 [] p2 := by
  obtain ⟨v,_,h⟩ := bndI h
  obtain ⟨hk,h⟩ := iteN h
  obtain ⟨x,hx,rfl⟩ := mapI h
  obtain ⟨p1,e1⟩ := nameOf_eq hx
  have := v.2
  rw [e1,emp_eq hk] at this
  exact ⟨p1,_,this⟩
def rangeArgs (sc : List (Str × NameKind)) (e : Expr) : Option (List Expr) := (callOf e).bind fun q => if decide (q.1 = "range") && isGl sc q.1 then some q.2 else none
def two2 : Tg → Option (Nat × Nat)
  | .name _ => none
  | .tup is => twoOf is
def nameT : Tg → Option Nat
  | .name i => some i
  | .tup _ => none
def trRng (go : Go) (t : Tg) (ix : List (Option Nat)) (tst : Option Ex) (el : Ex) (as : List Expr) : Option Ex := (nameT t).bind fun i =>
  alt (oneOf as) (fun a => (go a).map fun hi => .compR ix i (.int 0) hi tst el) <|
  (twoOf as).bind fun q => (go q.1).bind fun lo => (go q.2).map fun hi => .compR ix i lo hi tst el
def trSrc (go : Go) (sc : List (Str × NameKind)) (iter : Expr) (t : Tg) (ix : List (Option Nat)) (tst : Option Ex) (el : Ex) : Option Ex :=
  alt (rangeArgs sc iter) (trRng go t ix tst el) <|
  (go iter).map fun s => .compL ix t s tst el
def trComp (cm : Bool) (go : Go) (goIn : List Str → List (Str × NameKind) → Go) (N : List Str) (sc : List (Str × NameKind)) (elt : Expr) (scope : Scope) (gs : List Comprehension) : Option Ex := (oneOf gs).bind fun g =>
    if cm && (decide (g.is_async = 0) && (okBlock sc scope.names && (decide (scope.kind = .function) && nodupB (inNames scope.names)))) then
      (trIfs (goIn (inNames scope.names) scope.names) g.ifs).bind fun tst => (goIn (inNames scope.names) scope.names elt).bind fun el => (trTg (inNames scope.names) scope.names g.target).bind fun t => trSrc go sc g.iter t (inIx N scope.names (inNames scope.names)) tst el
    else none
def innerCall (sc : List (Str × NameKind)) (es : List Expr) : Option (Str × List Expr) := (oneOf es).bind fun e => (callOf e).bind fun q => if isGl sc q.1 then some q else none
def trPlain (go : Go) (x : Str) (args : List Expr) : Option Ex := match trs go args with
  | some [] => none
  | some (y :: ys) => match trB x with
    | some b => some (.blt b (y :: ys))
    | none => some (.call x (y :: ys))
  | none => none
def trIsi (go : Go) (sc : List (Str × NameKind)) (es : List Expr) : Option Ex := (twoOf es).bind fun q => (nameOf q.2).bind fun t => if isGl sc t then (trTyB t).bind fun ty => (go q.1).map fun x => .isinst x ty else none
def trCallN (cm : Bool) (go : Go) (sc : List (Str × NameKind)) (x : Str) (args : List Expr) : Option Ex :=
  if x = "isinstance" then trIsi go sc args
  else if cm then match innerCall sc args with
    | some (g,as) =>
      if x = "len" ∧ g = "set" then match as with
        | [a] => (go a).map fun y => .blt .lset [y]
        | _ => none
      else if x = "list" ∧ g = "range" then match as with
        | [a] => (go a).map fun y => .blt .listrange1 [y]
        | [a,b] => match go a,go b with
          | some y,some z => some (.blt .listrange2 [y,z])
          | _,_ => none
        | _ => none
      else trPlain go x args
    | none => trPlain go x args
  else none
def trMeth (go : Go) (o : Expr) (m : Str) (es : List Expr) : Option Ex := (oneOf es).bind fun a => (go o).bind fun x => (go a).bind fun y => if m = "count" then some (.count x y) else
  if m = "index" then some (.index x y) else
  none
def trCall (cm : Bool) (go : Go) (sc : List (Str × NameKind)) (args : List Expr) (pos : Pos) (f : Expr) : Option Ex := alt (vName f) (fun q => if isGl sc q.1.1 then trCallN cm go sc q.1.1 args else none)
  ((vAttr f).bind fun q => if okBase q.1.1 && (q.1.2.2.endLine == pos.line) then trMeth go q.1.1 q.1.2.1 args else none)
def strC : Const → Option Str
  | .str s => some s
  | _ => none
def strOf (e : Expr) : Option Str := (vConst e).bind fun q => strC q.1.1
def fvOf (sc : List (Str × NameKind)) (e : Expr) : Option Str := (vFmt e).bind fun q => (nameOf q.1.1).bind fun x => if decide (q.1.2.1 = -1) && (isGl sc x && q.1.2.2.1.isNone) then some x else none
def trF (sc : List (Str × NameKind)) : List Expr → Option Ex
  | [a,m,b] => match strOf a,fvOf sc m,strOf b with
    | some x,some g,some y => some (.fstr x g y)
    | _,_,_ => none
  | _ => none
def trE (cm : Bool) : Nat → List Str → List (Str × NameKind) → Expr → Option Ex
  | 0,_,_,_ => none
  | n + 1,N,sc,e =>
    alt (vName e) (fun q => trName N sc q.1.1) <|
    alt (vConst e) (fun q => trConst q.1.1) <|
    alt (vUn e) (fun q => trUn q.1.1 (trE cm n N sc q.1.2.1)) <|
    alt (vBin e) (fun q => (trOp q.1.2.1).bind fun o => (trE cm n N sc q.1.1).bind fun x => (trE cm n N sc q.1.2.2.1).map fun y => .bin o x y) <|
    alt (vCmp e) (fun q => trCmp (trE cm n N sc) q.1.1 q.1.2.1 q.1.2.2.1) <|
    alt (vBool e) (fun q => trBool (trE cm n N sc) q.1.1 q.1.2.1) <|
    alt (vIf e) (fun q => (trE cm n N sc q.1.1).bind fun z => (trE cm n N sc q.1.2.1).bind fun x => (trE cm n N sc q.1.2.2.1).map fun y => .ifx z x y) <|
    alt (vSub e) (fun q => trSub (trE cm n N sc) q.1.1 q.1.2.1) <|
    alt (vAttr e) (fun q => trAttr (trE cm n N sc) q.1.1 q.1.2.1) <|
    alt (vList e) (fun q => (trs (trE cm n N sc) q.1.1).map .lst) <|
    alt (vTup e) (fun q => (trs (trE cm n N sc) q.1.1).map .tup) <|
    alt (vComp e) (fun q => trComp cm (trE cm n N sc) (trE cm n) N sc q.1.1 q.1.2.2.1 q.1.2.1) <|
    alt (vCall e) (fun q => if q.1.2.2.1.isEmpty then trCall cm (trE cm n N sc) sc q.1.2.1 q.1.2.2.2 q.1.1 else none) <|
    (vJoin e).bind fun q => trF sc q.1.1
theorem trE_succ (cm : Bool) (n : Nat) (N : List Str) (sc : List (Str × NameKind)) (e : Expr) : trE cm (n + 1) N sc e = (
    alt (vName e) (fun q => trName N sc q.1.1) <|
    alt (vConst e) (fun q => trConst q.1.1) <|
    alt (vUn e) (fun q => trUn q.1.1 (trE cm n N sc q.1.2.1)) <|
    alt (vBin e) (fun q => (trOp q.1.2.1).bind fun o => (trE cm n N sc q.1.1).bind fun x => (trE cm n N sc q.1.2.2.1).map fun y => .bin o x y) <|
    alt (vCmp e) (fun q => trCmp (trE cm n N sc) q.1.1 q.1.2.1 q.1.2.2.1) <|
    alt (vBool e) (fun q => trBool (trE cm n N sc) q.1.1 q.1.2.1) <|
    alt (vIf e) (fun q => (trE cm n N sc q.1.1).bind fun z => (trE cm n N sc q.1.2.1).bind fun x => (trE cm n N sc q.1.2.2.1).map fun y => .ifx z x y) <|
    alt (vSub e) (fun q => trSub (trE cm n N sc) q.1.1 q.1.2.1) <|
    alt (vAttr e) (fun q => trAttr (trE cm n N sc) q.1.1 q.1.2.1) <|
    alt (vList e) (fun q => (trs (trE cm n N sc) q.1.1).map .lst) <|
    alt (vTup e) (fun q => (trs (trE cm n N sc) q.1.1).map .tup) <|
    alt (vComp e) (fun q => trComp cm (trE cm n N sc) (trE cm n) N sc q.1.1 q.1.2.2.1 q.1.2.1) <|
    alt (vCall e) (fun q => if q.1.2.2.1.isEmpty then trCall cm (trE cm n N sc) sc q.1.2.1 q.1.2.2.2 q.1.1 else none) <|
    (vJoin e).bind fun q => trF sc q.1.1) := rfl
theorem trE_lc (cm : Bool) (n : Nat) (N : List Str) (sc : List (Str × NameKind)) (elt : Expr) (gens : List Comprehension) (scope : Scope) (p : Pos) : trE cm (n + 1) N sc (.ListComp elt gens scope p) = trComp cm (trE cm n N sc) (trE cm n) N sc elt scope gens := by rw [trE_succ]; rfl
theorem trE_sl (cm : Bool) (n : Nat) (N : List Str) (sc : List (Str × NameKind)) (a b c : Option Expr) (p : Pos) : trE cm (n + 1) N sc (.Slice a b c p) = none := by rw [trE_succ]; rfl
theorem trE_sc (cm : Bool) (n : Nat) (N : List Str) (sc : List (Str × NameKind)) (elt : Expr) (gens : List Comprehension) (scope : Scope) (p : Pos) : trE cm (n + 1) N sc (.SetComp elt gens scope p) = none := by rw [trE_succ]; rfl
theorem trE_dc (cm : Bool) (n : Nat) (N : List Str) (sc : List (Str × NameKind)) (key elt : Expr) (gens : List Comprehension) (scope : Scope) (p : Pos) : trE cm (n + 1) N sc (.DictComp key elt gens scope p) = none := by rw [trE_succ]; rfl
def namesOf : List Expr → Option (List (Str × Nat))
  | [] => some []
  | e :: r => (vName e).bind fun q => (namesOf r).map fun l => (q.1.1,q.1.2.line) :: l
def okPar (sc : List (Str × NameKind)) (nl : List (Str × Nat)) (es : List Expr) : Bool :=
  nl.all (fun p => decide (kindIn sc p.1 = some .local) && (p.2 == (nl.head?.map (·.2)).getD 0)) && (nodupB (nl.map (·.1)) && (!(es.all (foldedForSure 8)) && !(es.all (constantsAlone 8))))
def trPar (go : Go) (N : List Str) (sc : List (Str × NameKind)) (nl : List (Str × Nat)) (es : List Expr) : Option Sx := if okPar sc nl es then (trs (fun p => slot N p.1) nl).bind fun is => (trs go es).bind fun us =>
  if is.length = 2 ∧ us.length = 2 then some (.par is us) else none
  else none
def trTup (go : Go) (N : List Str) (sc : List (Str × NameKind)) (t : Expr) (ts : List Expr) (e : Expr) : Option Sx := match vTup e with
  | some q => (namesOf ts).bind fun nl => trPar go N sc nl q.1.1
  | none => (trTg N sc t).bind fun g => (two2 g).bind fun ij => (go e).map (.unp [ij.1,ij.2])
def trSetIx (go : Go) (N : List Str) (sc : List (Str × NameKind)) (o k e : Expr) : Option Sx := (nameOf o).bind fun x => if isVis sc x then (slot N x).bind fun i => (go k).bind fun u => (go e).map fun v => .setix i u v else none
def trAsg (go : Go) (N : List Str) (sc : List (Str × NameKind)) (mu : List Str) (e t : Expr) : Option Sx :=
  alt (vName t) (fun q => if isLoc sc q.1.1 then (slot N q.1.1).bind fun i => (go e).map fun y =>
    .asg i (mu.contains q.1.1) y else none) <|
  alt (vTup t) (fun q => trTup go N sc t q.1.1 e) <|
  (vSub t).bind fun q => trSetIx go N sc q.1.1 q.1.2.1 e
theorem altK {α β : Type} {o : Option α} {k : α → Option β} {d : Option β} {b : β} (h : alt o k d = some b) : (∃ a,o = some a ∧ k a = some b) ∨ d = some b := by
  cases o with
  | some a => exact .inl ⟨a,rfl,h⟩
  | none => exact .inr h
theorem iteI {c : Prop} [Decidable c] {α : Type} {o d : Option α} {b : α} (h : (if c then o else d) = some b) : (c ∧ o = some b) ∨ d = some b := by
  by_cases hc : c
  · rw [if_pos hc] at h; exact .inl ⟨hc,h⟩
  · rw [if_neg hc] at h; exact .inr h
def isDp (N : List Str) (mu : List Str) (i : Nat) : Bool := match N[i]? with
  | some x => decide (mu.count x = 2)
  | none => false
def trMut (go : Go) (dp : Nat → Bool) (i : Nat) (m : Str) (l : List Expr) : Option Sx :=
  alt (oneOf l) (fun a => if m = "append" then (go a).map fun x =>
    .app i x else
    if m = "extend" then (go a).map (.ext i) else
    none) <|
  (twoOf l).bind fun q => if m = "insert" then (go q.1).bind fun u => (go q.2).map fun v => .ins i u v else none
def mutCall (N : List Str) (sc : List (Str × NameKind)) (e : Expr) : Option (Nat × Str × List Expr) := (vCall e).bind fun q => if q.1.2.2.1.isEmpty then (vAttr q.1.1).bind fun r => (nameOf r.1.1).bind fun x =>
  if isVis sc x && (r.1.2.2.endLine == q.1.2.2.2.line) then (slot N x).map fun i => (i,r.1.2.1,q.1.2.1) else none
  else none
def isComp : Expr → Bool
  | .ListComp _ _ _ _ => true
  | .SetComp _ _ _ _ => true
  | .DictComp _ _ _ _ _ => true
  | _ => false
def trEx (go : Go) (N : List Str) (sc : List (Str × NameKind)) (dp : Nat → Bool) (e : Expr) : Option Sx :=
  alt (mutCall N sc e) (fun q => trMut go dp q.1 q.2.1 q.2.2) <|
  if isComp e then none else (go e).map .expr
def trForR (go : Go) (t : Tg) (b : List Sx) (as : List Expr) : Option Sx := (nameT t).bind fun i =>
  alt (oneOf as) (fun a => (go a).map fun hi => .forR i (.int 0) hi b) <|
  (twoOf as).bind fun q => (go q.1).bind fun lo => (go q.2).map fun hi => .forR i lo hi b
def trFor (go : Go) (sc : List (Str × NameKind)) (t : Tg) (iter : Expr) (b : List Sx) : Option Sx :=
  alt (rangeArgs sc iter) (trForR go t b) <| (go iter).map fun s => .forL t s b
def trRaise (go : Go) (sc : List (Str × NameKind)) (e : Expr) : Option Sx := (callOf e).bind fun q => (oneOf q.2).bind fun a => if isGl sc q.1 then (go a).map (.raise q.1) else none
def trS (cm : Bool) : Nat → List Str → List (Str × NameKind) → List Str → Stmt → Option Sx
  | 0,_,_,_,_ => none
  | n + 1,N,sc,mu,st =>
    alt (sAsg st) (fun q => (oneOf q.1.1).bind fun t => trAsg (trE cm 30 N sc) N sc mu q.1.2.1 t) <|
    alt (sExpr st) (fun q => trEx (trE cm 30 N sc) N sc (isDp N mu) q.1.1) <|
    alt (sRet st) (fun q => q.1.1.bind fun e => (trE cm 30 N sc e).map .ret) <|
    alt (sIf st) (fun q => (trE cm 30 N sc q.1.1).bind fun t => (trs (trS cm n N sc mu) q.1.2.1).bind fun x => (trs (trS cm n N sc mu) q.1.2.2.1).map fun y => .ifs t x y) <|
    alt (sFor st) (fun q => if q.1.2.2.2.1.isEmpty then
      (trs (trS cm n N sc mu) q.1.2.2.1).bind fun b => (trTg N sc q.1.1).bind fun t => trFor (trE cm 30 N sc) sc t q.1.2.1 b else none) <|
    alt (sWhile st) (fun q => if q.1.2.2.1.isEmpty then (trE cm 30 N sc q.1.1).bind fun t => (trs (trS cm n N sc mu) q.1.2.1).map fun b => .while_ t b else none) <|
    alt (sRaise st) (fun q => if q.1.2.1.isNone then q.1.1.bind fun e => trRaise (trE cm 30 N sc) sc e else none) <|
    (sPass st).map fun _ => .pass
theorem trS_succ (cm : Bool) (n : Nat) (N : List Str) (sc : List (Str × NameKind)) (mu : List Str) (st : Stmt) : trS cm (n + 1) N sc mu st = (
    alt (sAsg st) (fun q => (oneOf q.1.1).bind fun t => trAsg (trE cm 30 N sc) N sc mu q.1.2.1 t) <|
    alt (sExpr st) (fun q => trEx (trE cm 30 N sc) N sc (isDp N mu) q.1.1) <|
    alt (sRet st) (fun q => q.1.1.bind fun e => (trE cm 30 N sc e).map .ret) <|
    alt (sIf st) (fun q => (trE cm 30 N sc q.1.1).bind fun t => (trs (trS cm n N sc mu) q.1.2.1).bind fun x => (trs (trS cm n N sc mu) q.1.2.2.1).map fun y => .ifs t x y) <|
    alt (sFor st) (fun q => if q.1.2.2.2.1.isEmpty then
      (trs (trS cm n N sc mu) q.1.2.2.1).bind fun b => (trTg N sc q.1.1).bind fun t => trFor (trE cm 30 N sc) sc t q.1.2.1 b else none) <|
    alt (sWhile st) (fun q => if q.1.2.2.1.isEmpty then (trE cm 30 N sc q.1.1).bind fun t => (trs (trS cm n N sc mu) q.1.2.1).map fun b => .while_ t b else none) <|
    alt (sRaise st) (fun q => if q.1.2.1.isNone then q.1.1.bind fun e => trRaise (trE cm 30 N sc) sc e else none) <|
    (sPass st).map fun _ => .pass) := rfl
end
end Ev
namespace Ev
open MT (tle tlt)
theorem insI_perm (x : Int) : ∀ l : List Int,(insI x l).Perm (x :: l)
  | [] => .refl _
  | y :: r => by
    unfold insI
    split
    · exact .refl _
    · exact ((insI_perm x r).cons y).trans (List.Perm.swap x y r)
theorem isortI_perm : ∀ l : List Int,(isortI l).Perm l
  | [] => .refl _
  | x :: r => (insI_perm x _).trans ((isortI_perm r).cons x)
theorem insI_sorted (x : Int) : ∀ l : List Int,l.Pairwise (· ≤ ·) → (insI x l).Pairwise (· ≤ ·)
  | [],_ => by simp [insI]
  | y :: r,h => by
    unfold insI
    rw [List.pairwise_cons] at h
    split
    · rename_i hxy
      refine List.pairwise_cons.mpr ⟨fun z hz => ?_,List.pairwise_cons.mpr h⟩
      rcases List.mem_cons.mp hz with rfl | hz
      · exact hxy
      · exact Int.le_trans hxy (h.1 z hz)
    · rename_i hxy
      refine List.pairwise_cons.mpr ⟨fun z hz => ?_,insI_sorted x r h.2⟩
      rcases List.mem_cons.mp ((insI_perm x r).mem_iff.mp hz) with rfl | hz
      · lia
      · exact h.1 z hz
theorem isortI_sorted : ∀ l : List Int,(isortI l).Pairwise (· ≤ ·)
  | [] => .nil
  | x :: r => insI_sorted x _ (isortI_sorted r)
theorem isortI_unique {l l' : List Int} (p : l'.Perm l) (s : l'.Pairwise (· ≤ ·)) : l' = isortI l := MT.sorted_eq (p.trans (isortI_perm l).symm) s (isortI_sorted l)
theorem tleB_iff (a b : Int × Int) : tleB a b = true ↔ tle a b := by
  unfold tleB tle
  simp only [Bool.or_eq_true,Bool.and_eq_true,decide_eq_true_eq]
theorem insT_perm (x : Int × Int) : ∀ l : List (Int × Int),(insT x l).Perm (x :: l)
  | [] => .refl _
  | y :: r => by
    unfold insT
    split
    · exact .refl _
    · exact ((insT_perm x r).cons y).trans (List.Perm.swap x y r)
theorem isortT_perm : ∀ l : List (Int × Int),(isortT l).Perm l
  | [] => .refl _
  | x :: r => (insT_perm x _).trans ((isortT_perm r).cons x)
theorem tle_trans {a b c : Int × Int} (h : tle a b) (k : tle b c) : tle a c := by
  rcases h with h | ⟨h1,h2⟩ <;> rcases k with k | ⟨k1,k2⟩
  · exact .inl (Int.lt_trans h k)
  · exact .inl (by rw [← k1]; exact h)
  · exact .inl (by rw [h1]; exact k)
  · exact .inr ⟨h1.trans k1,Int.le_trans h2 k2⟩
theorem tle_not {x y : Int × Int} (h : ¬ tle x y) : tle y x := by
  rcases Int.lt_trichotomy x.1 y.1 with a | a | a
  · exact absurd (.inl a) h
  · exact .inr ⟨a.symm,Int.le_of_lt (Int.not_le.mp fun z => h (.inr ⟨a,z⟩))⟩
  · exact .inl a
theorem insT_sorted (x : Int × Int) : ∀ l : List (Int × Int),l.Pairwise tle → (insT x l).Pairwise tle
  | [],_ => by simp [insT]
  | y :: r,h => by
    unfold insT
    rw [List.pairwise_cons] at h
    split
    · rename_i hxy
      have hxy : tle x y := (tleB_iff _ _).mp hxy
      refine List.pairwise_cons.mpr ⟨fun z hz => ?_,List.pairwise_cons.mpr h⟩
      rcases List.mem_cons.mp hz with rfl | hz
      · exact hxy
      · exact tle_trans hxy (h.1 z hz)
    · rename_i hxy
      have hyx : tle y x := tle_not fun z => hxy ((tleB_iff _ _).mpr z)
      refine List.pairwise_cons.mpr ⟨fun z hz => ?_,insT_sorted x r h.2⟩
      rcases List.mem_cons.mp ((insT_perm x r).mem_iff.mp hz) with rfl | hz
      · exact hyx
      · exact h.1 z hz
theorem isortT_sorted : ∀ l : List (Int × Int),(isortT l).Pairwise tle
  | [] => .nil
  | x :: r => insT_sorted x _ (isortT_sorted r)
theorem sortedT_eq : ∀ {l l' : List (Int × Int)},l.Perm l' → l.Pairwise tle → l'.Pairwise tle → l = l'
  | [],l',p,_,_ => (List.nil_perm.mp p).symm
  | a :: r,[],p,_,_ => absurd p.length_eq (by simp)
  | a :: r,b :: s,p,h,k => by
    rw [List.pairwise_cons] at h k
    have hab : a = b := by
      have h1 : a ∈ b :: s := p.mem_iff.mp List.mem_cons_self
      have h2 : b ∈ a :: r := p.mem_iff.mpr List.mem_cons_self
      rcases List.mem_cons.mp h1 with e | h1
      · exact e
      · rcases List.mem_cons.mp h2 with e | h2
        · exact e.symm
        · exact MT.tle_antisymm (h.1 b h2) (k.1 a h1)
    subst hab
    rw [sortedT_eq (List.Perm.cons_inv p) h.2 k.2]
theorem isortT_unique {l l' : List (Int × Int)} (p : l'.Perm l) (s : l'.Pairwise tle) : l' = isortT l := sortedT_eq (p.trans (isortT_perm l).symm) s (isortT_sorted l)
theorem mapO_inv {α : Type} {f : D → Option α} {g : α → D} (hf : ∀ {d a},f d = some a → d = g a) : ∀ {ds : List D} {l : List α},mapO f ds = some l → ds = l.map g
  | [],l,h => by cases h; rfl
  | d :: r,l,h => by
    obtain ⟨a,ha,h1⟩ := bndI h
    obtain ⟨l',hl,e⟩ := mapI h1
    rw [← e,hf ha,mapO_inv hf hl]; rfl
theorem mapO_int {ds : List D} {ns : List Int} : mapO toInt ds = some ns → ds = ns.map D.int := mapO_inv toInt_eq
theorem mapO_tie {ds : List D} {ts : List (Int × Int)} : mapO toTie ds = some ts → ds = ts.map tieD := mapO_inv toTie_eq
theorem mapO_bl {ds : List D} {bs : List Bool} : mapO toBl ds = some bs → ds = bs.map D.bl := mapO_inv toBl_eq
theorem lfs_map {α : Type} {g : α → D} (h : ∀ a,lf (g a) = true) (l : List α) : lfs (l.map g) = true := by
  induction l with
  | nil => rfl
  | cons a r ih =>
    show (lf (g a) && lfs (r.map g)) = true
    rw [h,ih]; rfl
theorem lfs_map_int (ns : List Int) : lfs (ns.map D.int) = true := lfs_map (g:=D.int) (fun _ => rfl) ns
end Ev
set_option maxRecDepth 100000
namespace Ev
open PySem (Str)
def Fl (l : List (Str × Fn)) : FEnv := fun x => l.lookup x
def mkFn (W : Wd) (np n : Nat) (fl : List Bool) (b : List Sx) : Fn := ⟨fun ds => if ds.length = np then evFn W n fl b ds else none,fl⟩
def treeFn (chk : Fn) : Fn := ⟨fun ds => match ds with
  | [.int n,.lst ts] => if lfs ts then match chk.m [.int n,.lst ts] with
    | some (.ok _) => some (.ok (.tree n ts))
    | some (.exc c) => some (.exc c)
    | none => none
    else none
  | _ => none,[]⟩
inductive Tb where
  | ret (f : Str) (es : List Ex)
  | ifret (c : Ex) (f : Str) (es : List Ex)
inductive Hx where
  | isi | lst (pre : List Int) | tup (pre : List Int)
structure Hn where
  x : Str
  i : Nat
  h : Hx
  y : Str
def evC (W : Wd) (ρ : Env) (f : Str) (es : List Ex) : Option Res := match W.F f with
  | some fn => match evEs W ρ es with
    | some (.ok ds ts) => callR fn ds ts
    | _ => none
  | none => none
structure Br where
  c : Ex
  f : Str
  es : List Ex
def evCh (W : Wd) (ρ : Env) (last : Str × List Ex) : List Br → Option Res
  | [] => evC W ρ last.1 last.2
  | b :: r => match evE W ρ b.c with
    | some (.ok (.bl true) _) => evC W ρ b.f b.es
    | some (.ok (.bl false) _) => evCh W ρ last r
    | _ => none
def leafR : Option R → Option R
  | some (.ok d) => if lf d then some (.ok d) else none
  | _ => none
def evMid (W : Wd) (n : Nat) (pre : List Sx) (ch : List Br × (Str × List Ex)) (i : Nat) (wf : Fn) (post : List Sx) (ds : List D) : Option R := match evSs W (entsOf [] ds ++ List.replicate (n - ds.length) none) pre with
  | some (.nx ρ) => match evCh W ρ ch.2 ch.1 with
    | some (.ok _ _) => endR (evSs W ρ post)
    | some (.exc c) => if W.exn c = true ∧ i < ρ.length then leafR (wf.m [.exc c]) else none
    | none => none
  | _ => none
def mkMid (W : Wd) (np n : Nat) (pre : List Sx) (ch : List Br × (Str × List Ex)) (i : Nat) (wf : Fn) (post : List Sx) : Fn := ⟨fun ds => if ds.length = np then evMid W n pre ch i wf post ds else none,[]⟩
end Ev
set_option Elab.async false
set_option maxRecDepth 100000
set_option maxHeartbeats 1000000
namespace Ev
open PySem L2
structure Tx where
  K : PySem.W.Frag
  CT : Addr
  cv : Str → Value
mutual
def Rep (T : Tx) (H : Hp) (C : Addr → Prop) : D → V → Prop
  | .non,v => v = .non
  | .bl b,v => v = .bl b
  | .int i,v => v = .int i
  | .str s,v => v = .str s
  | .lst ds,v => ∃ a xs,v = .ref a ∧ C a ∧ H a = some (.lst xs) ∧ Reps T H C ds xs
  | .tup ds,v => ∃ a xs,v = .ref a ∧ SqT T.K H a xs ∧ Reps T H C ds xs
  | .tree n ts,v => ∃ a dx l xs,v = .ref a ∧ C l ∧ H a = some (.ins T.CT dx [("many",.int n),("ties",.ref l)]) ∧ H l = some (.lst xs) ∧ Reps T H C ts xs
  | .scr ns,v => ∃ a,v = .ref a ∧ ((∃ o,H a = some (.frz o (.lst (ns.map V.int)))) ∨ (∃ (o : Obj) (its : Array Value) (n : Nat),T.K.lookup a = some o ∧ o.cls = .type "list" ∧ o.dict = none ∧ o.data = .seq its n ∧ its.size ≤ sizeLine ∧ Vals (ns.map V.int) its.toList))
  | .exc c,v => ∃ a,v = .ref a ∧ H a = some (.ext (excAt a (T.cv c)))
def Reps (T : Tx) (H : Hp) (C : Addr → Prop) : List D → List V → Prop
  | [],vs => vs = []
  | d :: ds,vs => ∃ w ws,vs = w :: ws ∧ Rep T H C d w ∧ Reps T H C ds ws
end
def NotL (o : HO) : Prop := ∀ xs,o ≠ .lst xs
mutual
theorem Rep.mono {T : Tx} {H H' : Hp} {C C' : Addr → Prop} (hH : ∀ b o,H b = some o → (C b ∨ NotL o) → H' b = some o) (hC : ∀ b,C b → C' b) : ∀ (d : D) (v : V),Rep T H C d v → Rep T H' C' d v
  | .non,v,h => h
  | .bl _,v,h => h
  | .int _,v,h => h
  | .str _,v,h => h
  | .lst ds,v,h => by
    obtain ⟨a,xs,e,c,q,r⟩ := h
    exact ⟨a,xs,e,hC _ c,hH _ _ q (.inl c),Reps.mono hH hC ds xs r⟩
  | .tup ds,v,h => by
    obtain ⟨a,xs,e,q,r⟩ := h
    refine ⟨a,xs,e,?_,Reps.mono hH hC ds xs r⟩
    rcases q with (q | ⟨o,q⟩) | q
    · exact .inl (.inl (hH _ _ q (.inr fun _ z => nomatch z)))
    · exact .inl (.inr ⟨o,hH _ _ q (.inr fun _ z => nomatch z)⟩)
    · exact .inr q
  | .tree n ts,v,h => by
    obtain ⟨a,dx,l,xs,e,c,q,q',r⟩ := h
    exact ⟨a,dx,l,xs,e,hC _ c,hH _ _ q (.inr fun _ z => nomatch z),hH _ _ q' (.inl c),Reps.mono hH hC ts xs r⟩
  | .scr ns,v,h => by
    obtain ⟨a,e,q⟩ := h
    refine ⟨a,e,q.imp (fun ⟨o,q⟩ => ⟨o,hH _ _ q (.inr fun _ z => nomatch z)⟩) id⟩
  | .exc c,v,h => by
    obtain ⟨a,e,q⟩ := h
    exact ⟨a,e,hH _ _ q (.inr fun _ z => nomatch z)⟩
theorem Reps.mono {T : Tx} {H H' : Hp} {C C' : Addr → Prop} (hH : ∀ b o,H b = some o → (C b ∨ NotL o) → H' b = some o) (hC : ∀ b,C b → C' b) : ∀ (ds : List D) (vs : List V),Reps T H C ds vs → Reps T H' C' ds vs
  | [],vs,h => h
  | d :: ds,vs,h => by
    obtain ⟨w,ws,e,r,rs⟩ := h
    exact ⟨w,ws,e,Rep.mono hH hC d w r,Reps.mono hH hC ds ws rs⟩
end
mutual
theorem Rep.dom {T : Tx} {H : Hp} {C : Addr → Prop} : ∀ (d : D) (v : V),Rep T H C d v → Rep T H (fun b => C b ∧ H b ≠ none) d v
  | .non,v,h => h
  | .bl _,v,h => h
  | .int _,v,h => h
  | .str _,v,h => h
  | .lst ds,v,h => by
    obtain ⟨a,xs,e,c,q,r⟩ := h
    exact ⟨a,xs,e,⟨c,by rw [q]; exact fun z => nomatch z⟩,q,Reps.dom ds xs r⟩
  | .tup ds,v,h => by
    obtain ⟨a,xs,e,q,r⟩ := h
    exact ⟨a,xs,e,q,Reps.dom ds xs r⟩
  | .tree n ts,v,h => by
    obtain ⟨a,dx,l,xs,e,c,q,q',r⟩ := h
    exact ⟨a,dx,l,xs,e,⟨c,by rw [q']; exact fun z => nomatch z⟩,q,q',Reps.dom ts xs r⟩
  | .scr ns,v,h => h
  | .exc c,v,h => h
theorem Reps.dom {T : Tx} {H : Hp} {C : Addr → Prop} : ∀ (ds : List D) (vs : List V),Reps T H C ds vs → Reps T H (fun b => C b ∧ H b ≠ none) ds vs
  | [],vs,h => h
  | d :: ds,vs,h => by
    obtain ⟨w,ws,e,r,rs⟩ := h
    exact ⟨w,ws,e,Rep.dom d w r,Reps.dom ds ws rs⟩
end
mutual
theorem Rep.free {T : Tx} {H : Hp} {C C' : Addr → Prop} : ∀ (d : D) (v : V),lf d = true → Rep T H C d v → Rep T H C' d v
  | .non,v,_,h => h
  | .bl _,v,_,h => h
  | .int _,v,_,h => h
  | .str _,v,_,h => h
  | .lst ds,v,l,h => by simp [lf] at l
  | .tup ds,v,l,h => by
    obtain ⟨a,xs,e,q,r⟩ := h
    exact ⟨a,xs,e,q,Reps.free ds xs (by simpa [lf] using l) r⟩
  | .tree n ts,v,l,h => by simp [lf] at l
  | .scr ns,v,_,h => h
  | .exc c,v,_,h => h
theorem Reps.free {T : Tx} {H : Hp} {C C' : Addr → Prop} : ∀ (ds : List D) (vs : List V),lfs ds = true → Reps T H C ds vs → Reps T H C' ds vs
  | [],vs,_,h => h
  | d :: ds,vs,l,h => by
    obtain ⟨w,ws,e,r,rs⟩ := h
    simp only [lfs,Bool.and_eq_true] at l
    exact ⟨w,ws,e,Rep.free d w l.1 r,Reps.free ds ws l.2 rs⟩
end
section
variable {T : Tx} {H H' : Hp} {C C' : Addr → Prop} {d : D} {v : V} {ds es : List D} {vs ws : List V}
theorem Rep.same (s : Same H H') (h : Rep T H C d v) : Rep T H' C d v := Rep.mono (fun b o q _ => s b o q) (fun _ q => q) d v h
theorem Rep.imp (hC : ∀ b,C b → C' b) (h : Rep T H C d v) : Rep T H C' d v := Rep.mono (fun b o q _ => q) hC d v h
theorem Rep.any (h : Rep T H C d v) : Rep T H (fun _ => True) d v := h.imp fun _ _ => trivial
theorem Reps.same (s : Same H H') (h : Reps T H C ds vs) : Reps T H' C ds vs := Reps.mono (fun b o q _ => s b o q) (fun _ q => q) ds vs h
theorem Reps.imp (hC : ∀ b,C b → C' b) (h : Reps T H C ds vs) : Reps T H C' ds vs := Reps.mono (fun b o q _ => q) hC ds vs h
theorem Reps.any (h : Reps T H C ds vs) : Reps T H (fun _ => True) ds vs := h.imp fun _ _ => trivial
theorem Rep.upd {a : Addr} {xs : List V} {o : HO} (ha : H a = some (.lst xs)) (hn : ∀ b,C b → b ≠ a) (h : Rep T H C d v) : Rep T (L2.upd H a o) C d v :=
  Rep.mono (fun b u q c => by
    have : b ≠ a := by
      rcases c with c | c
      · exact hn b c
      · intro e; subst e; rw [ha] at q; cases q; exact c xs rfl
    rw [upd_ne this]; exact q) (fun _ q => q) d v h
theorem Reps.upd {a : Addr} {xs : List V} {o : HO} (ha : H a = some (.lst xs)) (hn : ∀ b,C b → b ≠ a) (h : Reps T H C ds vs) : Reps T (L2.upd H a o) C ds vs :=
  Reps.mono (fun b u q c => by
    have : b ≠ a := by
      rcases c with c | c
      · exact hn b c
      · intro e; subst e; rw [ha] at q; cases q; exact c xs rfl
    rw [upd_ne this]; exact q) (fun _ q => q) ds vs h
theorem Reps.length : ∀ {ds : List D} {vs : List V},Reps T H C ds vs → vs.length = ds.length
  | [],_,h => by cases h; rfl
  | d :: ds,_,⟨w,ws,e,_,rs⟩ => by subst e; simp [Reps.length rs]
theorem Reps.append : ∀ {ds es : List D} {vs ws : List V},Reps T H C ds vs → Reps T H C es ws → Reps T H C (ds ++ es) (vs ++ ws)
  | [],_,_,_,h,h' => by cases h; exact h'
  | d :: ds,_,_,_,⟨w,ws,e,r,rs⟩,h' => by subst e; exact ⟨w,_,rfl,r,Reps.append rs h'⟩
theorem Reps.get : ∀ {ds : List D} {vs : List V} {i : Nat} {d : D},Reps T H C ds vs → ds[i]? = some d → ∃ v,vs[i]? = some v ∧ Rep T H C d v
  | [],_,_,_,_,e => by simp at e
  | d :: ds,_,0,_,⟨w,ws,e,r,rs⟩,q => by subst e; simp at q; subst q; exact ⟨w,rfl,r⟩
  | d :: ds,_,i + 1,_,⟨w,ws,e,r,rs⟩,q => by
    subst e
    obtain ⟨v,h1,h2⟩ := Reps.get (i:=i) rs (by simpa using q)
    exact ⟨v,by simpa using h1,h2⟩
theorem Reps.get' : ∀ {ds : List D} {vs : List V} {i : Nat} {v : V},Reps T H C ds vs → vs[i]? = some v → ∃ d,ds[i]? = some d ∧ Rep T H C d v
  | [],_,_,_,h,e => by cases h; simp at e
  | d :: ds,_,0,_,⟨w,ws,e,r,rs⟩,q => by subst e; simp at q; subst q; exact ⟨d,rfl,r⟩
  | d :: ds,_,i + 1,_,⟨w,ws,e,r,rs⟩,q => by
    subst e
    obtain ⟨v,h1,h2⟩ := Reps.get' (i:=i) rs (by simpa using q)
    exact ⟨v,by simpa using h1,h2⟩
theorem Reps.drop : ∀ {ds : List D} {vs : List V} (n : Nat),Reps T H C ds vs → Reps T H C (ds.drop n) (vs.drop n)
  | _,_,0,h => h
  | [],_,n + 1,h => by cases h; exact rfl
  | d :: ds,_,n + 1,⟨w,ws,e,r,rs⟩ => by subst e; exact Reps.drop n rs
theorem Reps.take : ∀ {ds : List D} {vs : List V} (n : Nat),Reps T H C ds vs → Reps T H C (ds.take n) (vs.take n)
  | _,_,0,h => rfl
  | [],_,n + 1,h => by cases h; exact rfl
  | d :: ds,_,n + 1,⟨w,ws,e,r,rs⟩ => by subst e; exact ⟨w,_,rfl,r,Reps.take n rs⟩
theorem Reps.set : ∀ {ds : List D} {vs : List V} (i : Nat),Rep T H C d v → Reps T H C ds vs → Reps T H C (ds.set i d) (vs.set i v)
  | [],_,i,_,h => by cases h; exact rfl
  | e :: ds,_,0,r,⟨w,ws,q,_,rs⟩ => by subst q; exact ⟨v,ws,rfl,r,rs⟩
  | e :: ds,_,i + 1,r,⟨w,ws,q,r',rs⟩ => by subst q; exact ⟨w,_,rfl,r',Reps.set i r rs⟩
theorem reps_ints (ns : List Int) : Reps T H C (ns.map D.int) (ns.map V.int) := by
  induction ns with
  | nil => exact rfl
  | cons n r ih => exact ⟨_,_,rfl,rfl,ih⟩
end
structure Ctx where
  H0 : Hp
  P : Addr → Prop
  O : Addr → Prop
  S : Addr → Prop
def Cond (Γ : Ctx) (c : Cl) (b : Addr) : Prop := ¬ Γ.O b ∧ (c = .fl → Γ.H0 b = none ∨ Γ.P b)
inductive Gh where
  | val (c : Cl) (d : D) (v : V)
  | at (a : Addr) (xs : List V)
def GOk (T : Tx) (Γ : Ctx) (H : Hp) : Gh → Prop
  | .val c d v => Rep T H (Cond Γ c) d v
  | .at a xs => H a = some (.lst xs) ∧ ¬ Γ.O a
def TCc (Γ : Ctx) (c : Cl) (b : Addr) : Prop := c = .dp ∨ Cond Γ c b
theorem TCc.cond {Γ : Ctx} {c : Cl} {b : Addr} (h : TCc Γ c b) (hc : c ≠ .dp) : Cond Γ c b := h.resolve_left hc
def Loose (H : Hp) (S : Addr → Prop) (ds : List D) (n : Nat) (v : V) : Prop := ∃ a xs,v = .ref a ∧ S a ∧ H a = some (.lst xs) ∧ xs.length ≤ ds.length + n ∧ ∀ (k : Nat) (es : List D),ds[k]? = some (.lst es) → ∃ b ys,xs[k]? = some (.ref b) ∧ S b ∧ H b = some (.lst ys) ∧ ys.length ≤ es.length + n
def Deep (T : Tx) (S : Addr → Prop) (H : Hp) (d : D) (v : V) : Prop := (∀ ds,d = .lst ds → Rep T H S d v) ∧ ∀ ds n,looseOf d = some (ds,n) → Loose H S ds n v
def EntOk (T : Tx) (Γ : Ctx) (H : Hp) (e : Ent) (v : V) : Prop :=
  (e.own = true → e.c ≠ .dp → ∃ a xs ds,e.d = .lst ds ∧ v = .ref a ∧ Γ.O a ∧ ¬ Γ.S a ∧ H a = some (.lst xs) ∧ Reps T H (Cond Γ e.c) ds xs) ∧ (e.own = true → e.c = .dp → Deep T Γ.S H e.d v) ∧ (e.own = false → Rep T H (Cond Γ e.c) e.d v)
structure EnvOk (T : Tx) (Γ : Ctx) (G : List Gh) (ρ : Env) (σ : St) (H : Hp) : Prop where
  same : Same Γ.H0 H
  own : ∀ a,Γ.O a → Γ.H0 a = none ∧ H a ≠ none
  deep : ∀ a,Γ.S a → Γ.O a
  ent : ∀ (i : Nat) (e : Ent),ρ[i]? = some (some e) → ∃ v,σ[i]? = some (some v) ∧ EntOk T Γ H e v
  inj : ∀ (i j : Nat) (e e' : Ent),i ≠ j → ρ[i]? = some (some e) → ρ[j]? = some (some e') → e.own = true → e'.own = true → e.c ≠ .dp → e'.c ≠ .dp → σ[i]? ≠ σ[j]?
  gh : ∀ g ∈ G,GOk T Γ H g
  len : σ.length = ρ.length
def ROk (T : Tx) (Γ : Ctx) (H H' : Hp) (d : D) (t : Tag) (v : V) : Prop := match t with
  | .new => Rep T H' (fun b => H b = none) d v
  | .cl c => Rep T H' (TCc Γ c) d v
  | .own c => ∃ a xs ds,d = .lst ds ∧ v = .ref a ∧ Γ.O a ∧ H' a = some (.lst xs) ∧ Reps T H' (TCc Γ c) ds xs
def TC (Γ : Ctx) (H : Hp) : Tag → Addr → Prop
  | .new => fun b => H b = none
  | .cl c => TCc Γ c
  | .own c => TCc Γ c
section
variable {T : Tx} {Γ : Ctx} {G : List Gh} {ρ : Env} {σ : St} {H H1 H2 H' : Hp} {d : D} {t u : Tag} {v : V} {c : Cl} {e : Ent}
theorem GOk.same {g : Gh} (s : Same H H') (h : GOk T Γ H g) : GOk T Γ H' g := by
  cases g with
  | val c d v => exact Rep.same s h
  | «at» a xs => exact ⟨s _ _ h.1,h.2⟩
theorem Loose.same {S : Addr → Prop} {ds : List D} {n : Nat} (s : Same H H') (h : Loose H S ds n v) : Loose H' S ds n v := by
  obtain ⟨a,xs,h1,h2,h3,hl,h4⟩ := h
  refine ⟨a,xs,h1,h2,s _ _ h3,hl,fun k es hk => ?_⟩
  obtain ⟨b,ys,k1,k2,k3,k4⟩ := h4 k es hk
  exact ⟨b,ys,k1,k2,s _ _ k3,k4⟩
theorem Deep.same {S : Addr → Prop} (s : Same H H') (h : Deep T S H d v) : Deep T S H' d v := ⟨fun ds z => (h.1 ds z).same s,fun ds n z => (h.2 ds n z).same s⟩
theorem Deep.upd {S : Addr → Prop} {a : Addr} {xs : List V} {o : HO} (ha : H a = some (.lst xs)) (hn : ∀ b,S b → b ≠ a) (h : Deep T S H d v) : Deep T S (L2.upd H a o) d v := ⟨fun ds z => (h.1 ds z).upd ha hn,fun ds n z => by
  obtain ⟨a',xs,h1,h2,h3,hl,h4⟩ := h.2 ds n z
  refine ⟨a',xs,h1,h2,by rw [upd_ne (hn _ h2)]; exact h3,hl,fun k es hk => ?_⟩
  obtain ⟨b,ys,k1,k2,k3,k4⟩ := h4 k es hk
  exact ⟨b,ys,k1,k2,by rw [upd_ne (hn _ k2)]; exact k3,k4⟩⟩
theorem EntOk.same (s : Same H H') (h : EntOk T Γ H e v) : EntOk T Γ H' e v :=
  ⟨fun z y => let ⟨a,xs,ds,h1,h2,h3,h3',h4,h5⟩ := h.1 z y; ⟨a,xs,ds,h1,h2,h3,h3',s _ _ h4,h5.same s⟩,fun z y => (h.2.1 z y).same s,fun z => (h.2.2 z).same s⟩
theorem some_of_ne {H H' : Hp} {a : Addr} (s : Same H H') (h : H a ≠ none) : H' a ≠ none := by
  cases q : H a with
  | none => exact absurd q h
  | some o => rw [s a o q]; exact fun z => nomatch z
theorem EnvOk.mono (h : EnvOk T Γ G ρ σ H) (s : Same H H') : EnvOk T Γ G ρ σ H' :=
  ⟨h.same.trans s,fun a z => ⟨(h.own a z).1,some_of_ne s (h.own a z).2⟩,h.deep,fun i e q => let ⟨v,h1,h2⟩ := h.ent i e q; ⟨v,h1,h2.same s⟩,h.inj,fun g z => (h.gh g z).same s,h.len⟩
theorem EnvOk.fresh (h : EnvOk T Γ G ρ σ H) {b : Addr} (n : H b = none) : Cond Γ c b := ⟨fun z => (h.own b z).2 n,fun _ => .inl (h.same.free n)⟩
theorem TC.fresh (h : EnvOk T Γ G ρ σ H) {b : Addr} (n : H b = none) : TC Γ H t b := by
  cases t with
  | new => exact n
  | cl c => exact .inr (h.fresh n)
  | own c => exact .inr (h.fresh n)
theorem TCc.join_l {c c' : Cl} {b : Addr} (h : TCc Γ c b) : TCc Γ (c.join c') b := by
  rcases h with rfl | h
  · exact .inl rfl
  · cases c <;> cases c' <;> first | exact .inl rfl | exact .inr h | exact .inr ⟨h.1,fun z => nomatch z⟩
theorem TCc.join_r {c c' : Cl} {b : Addr} (h : TCc Γ c' b) : TCc Γ (c.join c') b := by
  rcases h with rfl | h
  · cases c <;> exact .inl rfl
  · cases c <;> cases c' <;> first | exact .inl rfl | exact .inr h | exact .inr ⟨h.1,fun z => nomatch z⟩
theorem TC.join_l (h : EnvOk T Γ G ρ σ H) {b : Addr} (n : TC Γ H t b) : TC Γ H (t.join u) b := by
  cases t with
  | new => exact TC.fresh h n
  | cl c => cases u with
    | new => exact n
    | cl c' => exact TCc.join_l (show TCc Γ c b from n)
    | own c' => exact .inl rfl
  | own c => cases u with
    | new => exact n
    | cl c' => exact .inl rfl
    | own c' => exact .inl rfl
theorem TC.join_r (h : EnvOk T Γ G ρ σ H) {b : Addr} (n : TC Γ H u b) : TC Γ H (t.join u) b := by
  cases u with
  | new => exact TC.fresh h n
  | cl c => cases t with
    | new => exact n
    | cl c' => exact TCc.join_r (show TCc Γ c b from n)
    | own c' => exact .inl rfl
  | own c => cases t with
    | new => exact n
    | cl c' => exact .inl rfl
    | own c' => exact .inl rfl
theorem TC.start (s : Same H H1) {b : Addr} (n : TC Γ H1 t b) : TC Γ H t b := by
  cases t with
  | new => exact s.free n
  | cl c => exact n
  | own c => exact n
theorem ROk.mono (s : Same H1 H2) (h : ROk T Γ H H1 d t v) : ROk T Γ H H2 d t v := by
  cases t with
  | new => exact Rep.same s h
  | cl c => exact Rep.same s h
  | own c => obtain ⟨a,xs,ds,h1,h2,h3,h4,h5⟩ := h; exact ⟨a,xs,ds,h1,h2,h3,s _ _ h4,h5.same s⟩
theorem ROk.start (s : Same H H1) (h : ROk T Γ H1 H2 d t v) : ROk T Γ H H2 d t v := by
  cases t with
  | new => exact Rep.imp (fun b n => s.free n) h
  | cl c => exact h
  | own c => exact h
theorem ROk.any (h : ROk T Γ H H' d t v) : Rep T H' (fun _ => True) d v := by
  cases t with
  | new => exact Rep.any h
  | cl c => exact Rep.any h
  | own c => obtain ⟨a,xs,ds,rfl,rfl,h3,h4,h5⟩ := h; exact ⟨a,xs,rfl,trivial,h4,h5.any⟩
theorem ROk.list {ds : List D} (h : ROk T Γ H H' (.lst ds) t v) : ∃ a xs,v = .ref a ∧ H' a = some (.lst xs) ∧ Reps T H' (TC Γ H t) ds xs := by
  cases t with
  | new => obtain ⟨a,xs,e,c,q,r⟩ := h; exact ⟨a,xs,e,q,r⟩
  | cl c => obtain ⟨a,xs,e,c,q,r⟩ := h; exact ⟨a,xs,e,q,r⟩
  | own c => obtain ⟨a,xs,ds,h1,h2,h3,h4,h5⟩ := h; cases h1; exact ⟨a,xs,h2,h4,h5⟩
theorem ROk.tuple {ds : List D} (h : ROk T Γ H H' (.tup ds) t v) : ∃ a xs,v = .ref a ∧ SqT T.K H' a xs ∧ Reps T H' (TC Γ H t) ds xs := by
  cases t with
  | new => obtain ⟨a,xs,e,q,r⟩ := h; exact ⟨a,xs,e,q,r⟩
  | cl c => obtain ⟨a,xs,e,q,r⟩ := h; exact ⟨a,xs,e,q,r⟩
  | own c => obtain ⟨a,xs,ds,h1,_⟩ := h; cases h1
theorem TC.el {b : Addr} : TC Γ H t.el b = TC Γ H t b := by cases t <;> rfl
theorem ROk.of (h : Rep T H' (TC Γ H t) d v) (no : ∀ c,t ≠ .own c) : ROk T Γ H H' d t v := by
  cases t with
  | new => exact h
  | cl c => exact h
  | own c => exact absurd rfl (no c)
theorem ROk.rep (h : ROk T Γ H H' d t v) (no : ∀ c,t ≠ .own c) : Rep T H' (TC Γ H t) d v := by
  cases t with
  | new => exact h
  | cl c => exact h
  | own c => exact absurd rfl (no c)
theorem el_no : ∀ c,t.el ≠ .own c := by intro c; cases t <;> simp [Tag.el]
theorem ROk.rt (h : ROk T Γ H H' d t v) : ROk T Γ H H' d (Ev.rt d t) v := by
  unfold Ev.rt
  split
  · rename_i l
    exact Rep.free d v l h.any
  · exact h
end
end Ev
set_option Elab.async false
set_option maxRecDepth 100000
set_option maxHeartbeats 1000000
namespace Ev
open PySem L2
theorem PE.imp {X : Cx} {e : Expr} {t t' : TE} (h : PE X e t) (hi : ∀ σ H Q,t' σ H Q → t σ H Q) : PE X e t' := fun pins s σ H Q I q => h pins s σ H Q I (hi σ H Q q)
def Post (T : Tx) (E : XK) (Γ : Ctx) (H : Hp) (Q : VK) : Res → Prop
  | .ok d t => ∀ v H',Same H H' → ROk T Γ H H' d t v → Q v H'
  | .exc c => ∀ H',Same H H' → E (T.cv c) none H'
def Den (T : Tx) (W : Wd) (E : XK) (t : TE) (x : Ex) : Prop := ∀ (Γ : Ctx) (G : List Gh) (ρ : Env) (σ : St) (H : Hp) (r : Res) (Q : VK),evE W ρ x = some r → EnvOk T Γ G ρ σ H → Post T E Γ H Q r → t σ H Q
def Snd (T : Tx) (W : Wd) (X : Cx) (E : XK) (e : Expr) (x : Ex) : Prop := ∃ t,PE X e t ∧ Den T W E t x
section
variable {T : Tx} {W : Wd} {X : Cx} {E : XK} {Γ : Ctx} {G : List Gh} {ρ : Env} {σ : St} {H H1 H2 H' : Hp} {Q : VK} {r : Res} {d x y : D} {t u : Tag} {v : V}
theorem Post.mono (s : Same H H1) (h : Post T E Γ H Q r) : Post T E Γ H1 Q r := by
  cases r with
  | ok d t => exact fun v H' s' q => h v H' (s.trans s') (q.start s)
  | exc c => exact fun H' s' => h H' (s.trans s')
theorem Den.step {ta : TE} {xa : Ex} (ha : Den T W E ta xa) {k : D → Tag → Option Res} (hk : bindR (evE W ρ xa) k = some r) (h : EnvOk T Γ G ρ σ H) (hp : Post T E Γ H Q r) {Q' : VK}
    (cont : ∀ d t v H1,k d t = some r → Same H H1 → ROk T Γ H H1 d t v → EnvOk T Γ G ρ σ H1 → Post T E Γ H1 Q r → Q' v H1) : ta σ H Q' := by
  cases e : evE W ρ xa with
  | none => rw [e] at hk; cases hk
  | some r1 =>
    rw [e] at hk
    cases r1 with
    | exc c =>
      have z : r = .exc c := (Option.some.inj hk).symm
      subst z
      exact ha Γ G ρ σ H _ _ e h hp
    | ok d t => exact ha Γ G ρ σ H _ _ e h fun v H' s q => cont d t v H' hk s q (h.mono s) (hp.mono s)
theorem rok_int {i : Int} : ROk T Γ H H' (.int i) .new (.int i) := rfl
theorem el_join_no : ∀ c,(t.el.join u.el) ≠ .own c := by intro c; cases t <;> cases u <;> simp [Tag.el,Tag.join]
theorem mkList {ds : List D} {xs : List V} {p : Addr} (h : EnvOk T Γ G ρ σ H) (s : Same H H1) (n : H1 p = none) (no : ∀ c,t ≠ .own c) (r : Reps T H1 (TC Γ H t) ds xs) :
    Same H1 (L2.upd H1 p (.lst xs)) ∧ ROk T Γ H (L2.upd H1 p (.lst xs)) (.lst ds) (rts ds t) (.ref p) := by
  have s1 : Same H1 (L2.upd H1 p (.lst xs)) := Same.mk1 n
  refine ⟨s1,?_⟩
  have hp : H p = none := s.free n
  unfold rts
  split
  · rename_i l
    exact ⟨p,xs,rfl,hp,upd_same,Reps.free ds xs l (r.same s1)⟩
  · refine ROk.of ⟨p,xs,rfl,TC.fresh h hp,upd_same,r.same s1⟩ no
theorem mkTup {ds : List D} {xs : List V} {p : Addr} (h : EnvOk T Γ G ρ σ H) (s : Same H H1) (n : H1 p = none) (no : ∀ c,t ≠ .own c) (r : Reps T H1 (TC Γ H t) ds xs) :
    Same H1 (L2.upd H1 p (.tup xs)) ∧ ROk T Γ H (L2.upd H1 p (.tup xs)) (.tup ds) (rts ds t) (.ref p) := by
  have s1 : Same H1 (L2.upd H1 p (.tup xs)) := Same.mk1 n
  refine ⟨s1,?_⟩
  unfold rts
  split
  · rename_i l
    exact ⟨p,xs,rfl,SqT.of upd_same,Reps.free ds xs l (r.same s1)⟩
  · refine ROk.of ⟨p,xs,rfl,SqT.of upd_same,r.same s1⟩ no
theorem snd_var {i : Nat} {x : Str} {pos : Pos} (hN : X.N[i]? = some x) (hv : Vis X.env.scope x) (hd : (x == ("__debug__" : Str)) = false) (hcd : (x == ("__classdict__" : Str)) = false) : Snd T W X E (.Name x pos) (.var i) :=
  ⟨_,pe_var hN hv hd hcd,fun Γ G ρ σ H r Q he h hp => by
    conv at he => lhs; whnf
    split at he
    · rename_i e he'
      obtain ⟨v,hs,ok⟩ := h.ent _ _ he'
      cases ho : e.own with
      | true =>
        rw [ho,if_pos rfl] at he
        split at he
        · rename_i ds hd
          cases he
          refine ⟨v,hs,hp v H (Same.refl _) ?_⟩
          by_cases hc : e.c = .dp
          · obtain ⟨a,xs,h2,h3,h4,h5⟩ := (show Rep T H Γ.S (.lst ds) v by have := (ok.2.1 ho hc).1 ds hd; rw [hd] at this; exact this)
            exact ⟨a,xs,ds,hd,h2,h.deep _ h3,h4,h5.imp fun b _ => .inl hc⟩
          · obtain ⟨a,xs,ds,h1,h2,h3,_,h4,h5⟩ := ok.1 ho hc
            exact ⟨a,xs,ds,h1,h2,h3,h4,h5.imp fun b z => .inr z⟩
        · cases he
      | false =>
        rw [ho,if_neg (by decide)] at he
        cases he
        exact ⟨v,hs,hp v H (Same.refl _) (ROk.rt (t:=.cl e.c) ((ok.2.2 ho).imp fun b z => .inr z))⟩
    · cases he⟩
theorem snd_int {i : Int} {j pos} : Snd T W X E (.Constant (.int i) j pos) (.int i) := ⟨_,pe_int,fun Γ G ρ σ H r Q he h hp => by cases he; exact hp _ H (Same.refl _) rfl⟩
theorem snd_bl {b : Bool} {j pos} : Snd T W X E (.Constant (.bool b) j pos) (.bl b) := ⟨_,pe_bl,fun Γ G ρ σ H r Q he h hp => by cases he; exact hp _ H (Same.refl _) rfl⟩
theorem snd_non {j pos} : Snd T W X E (.Constant .none j pos) .non := ⟨_,pe_non,fun Γ G ρ σ H r Q he h hp => by cases he; exact hp _ H (Same.refl _) rfl⟩
theorem snd_str {s : Str} {j pos} : Snd T W X E (.Constant (.str s) j pos) (.str s) := ⟨_,pe_str,fun Γ G ρ σ H r Q he h hp => by cases he; exact hp _ H (Same.refl _) rfl⟩
theorem snd_glob {x : Str} {pos : Pos} (hg : Gl X x) (hm : ∀ i,W.glob x = some i → ∃ t,X.mg x = some (.int i t)) (hd : (x == ("__debug__" : Str)) = false) : Snd T W X E (.Name x pos) (.glob x) := by
  cases e : W.glob x with
  | none => exact ⟨fun _ _ _ => False,fun _ _ _ _ _ _ q => q.elim,fun Γ G ρ σ H r Q he h hp => by (conv at he => lhs; whnf); rw [e] at he; cases he⟩
  | some i =>
    obtain ⟨t,q⟩ := hm i e
    exact ⟨_,pe_glob (v:=.int i) hg q ⟨t,rfl⟩ hd,fun Γ G ρ σ H r Q he h hp => by
      (conv at he => lhs; whnf); rw [e] at he; cases he; exact hp _ H (Same.refl _) rfl⟩
theorem snd_neg {a : Expr} {xa : Ex} {pos} (ha : Snd T W X E a xa) : Snd T W X E (.UnaryOp .USub a pos) (.neg xa) := by
  obtain ⟨ta,pa,da⟩ := ha
  refine ⟨_,pe_un un_neg pa,fun Γ G ρ σ H r Q he h hp => ?_⟩
  conv at he => lhs; whnf
  refine da.step he h hp fun d t v H1 hk s ok h1 hp1 => ?_
  split at hk
  · rename_i i
    cases hk
    cases (show v = .int i from ok.any)
    exact ⟨i,rfl,hp1 _ H1 (Same.refl _) rfl⟩
  · cases hk
theorem snd_not {a : Expr} {xa : Ex} {pos} (ha : Snd T W X E a xa) : Snd T W X E (.UnaryOp .Not a pos) (.not xa) := by
  obtain ⟨ta,pa,da⟩ := ha
  refine ⟨_,pe_not pa,fun Γ G ρ σ H r Q he h hp => ?_⟩
  conv at he => lhs; whnf
  refine da.step he h hp fun d t v H1 hk s ok h1 hp1 => ?_
  split at hk
  · rename_i b
    cases hk
    cases (show v = .bl b from ok.any)
    exact ⟨b,rfl,hp1 _ H1 (Same.refl _) rfl⟩
  · cases hk
theorem OpR.or {f : Value → Value → Sem Value} {r r' : R2} (h : OpR X f r) (h' : OpR X f r') : OpR X f (fun x y H Q => r x y H Q ∨ r' x y H Q) := by
  intro pins s σ H x y v u Q I rx ry q
  rcases q with q | q
  · exact h pins s σ H x y v u Q I rx ry q
  · exact h' pins s σ H x y v u Q I rx ry q
structure OpB (T : Tx) (X : Cx) (op : Operator) (o : Bop) (r : R2) : Prop where
  op : OpR X (binaryOp op) r
  run : ∀ {Γ : Ctx} {G : List Gh} {ρ : Env} {σ : St} {H H1 : Hp} {x y : D} {tx ty : Tag} {vx vy : V} {d : D} {Q : VK},EnvOk T Γ G ρ σ H → Same H H1 → ROk T Γ H H1 x tx vx → ROk T Γ H H1 y ty vy → binD o x y = some d →
    (∀ v H',Same H1 H' → ROk T Γ H H' d (tagB d tx ty) v → Q v H') → r vx vy H1 Q
theorem opB_int {op : Operator} {o : Bop} {C : Int → Int → Prop} {g : Int → Int → Int} (ho : OpR X (binaryOp op) (rI C fun i j => .int (g i j))) (hd : ∀ x y d,binD o x y = some d → ∃ i j,x = .int i ∧ y = .int j ∧ C i j ∧ d = .int (g i j)) :
    OpB T X op o (rI C fun i j => .int (g i j)) where
  op := ho
  run := fun {Γ G ρ σ H H1 x y tx ty vx vy d Q} h s ox oy hb q => by
    obtain ⟨i,j,rfl,rfl,hc,rfl⟩ := hd _ _ _ hb
    exact ⟨i,j,ox.any,oy.any,hc,q _ H1 (Same.refl _) rfl⟩
theorem opB_add : OpB T X .Add .add (fun x y H Q => rI0 (fun i j => .int (i + j)) x y H Q ∨ rCat x y H Q) where
  op := OpR.or op_add op_cat
  run := fun {Γ G ρ σ H H1 x y tx ty vx vy d Q} h s ox oy hb q => by
    cases x with
    | int i => cases y with
      | int j => cases hb; exact .inl ⟨_,_,ox.any,oy.any,q _ H1 (Same.refl _) rfl⟩
      | _ => cases hb
    | lst a => cases y with
      | lst b =>
        obtain ⟨hz,hb⟩ := iteN hb
        cases hb
        obtain ⟨l,xs,rfl,hl,rl⟩ := ox.list
        obtain ⟨m,zs,rfl,hm,rm⟩ := oy.list
        have e1 := rl.length
        have e2 := rm.length
        refine .inr ⟨l,m,xs,zs,rfl,rfl,hl,hm,Nat.le_trans (by rw [e1,e2]; exact hz) (by decide),fun p hp => ?_⟩
        obtain ⟨s1,ok⟩ := mkList (t:=tx.el.join ty.el) h s hp el_join_no ((rl.imp fun b z => TC.join_l h (by rw [TC.el]; exact z)).append (rm.imp fun b z => TC.join_r h (by rw [TC.el]; exact z)))
        exact q _ _ s1 ok
      | _ => cases hb
    | _ => cases hb
theorem opB_mul : OpB T X .Mult .mul (fun x y H Q => rI CMul (fun i j => .int (i * j)) x y H Q ∨ rRep x y H Q) where
  op := OpR.or op_mul op_rep
  run := fun {Γ G ρ σ H H1 x y tx ty vx vy d Q} h s ox oy hb q => by
    cases x with
    | int i => cases y with
      | int j =>
        obtain ⟨hz,hb⟩ := iteN hb
        cases hb
        exact .inl ⟨_,_,ox.any,oy.any,hz,q _ H1 (Same.refl _) rfl⟩
      | _ => cases hb
    | lst a => cases y with
      | int b =>
        obtain ⟨hz,hb⟩ := iteN hb
        · cases hb
          obtain ⟨l,xs,rfl,hl,rl⟩ := ox.list
          have e1 := rl.length
          obtain ⟨z1,z2,z3⟩ := hz
          have z4 : b.toNat ≤ 1000 := by lia
          refine .inr ⟨l,b,xs,rfl,oy.any,hl,by lia,by omega,Nat.le_trans (Nat.mul_le_mul (show xs.length ≤ 100 by rw [e1]; exact z3) z4) (by decide),fun p hp => ?_⟩
          have rr : Reps T H1 (TC Γ H (tx.el.join ty.el)) (List.replicate b.toNat a).flatten (List.replicate b.toNat xs).flatten := by
            have base := rl.imp (C':=TC Γ H (tx.el.join ty.el)) fun b z => TC.join_l h (by rw [TC.el]; exact z)
            generalize b.toNat = k
            induction k with
            | zero => exact rfl
            | succ k ih => simp only [List.replicate_succ,List.flatten_cons]; exact base.append ih
          obtain ⟨s1,ok⟩ := mkList (t:=tx.el.join ty.el) h s hp el_join_no rr
          exact q _ _ s1 ok
      | _ => cases hb
    | _ => cases hb
theorem opB_sub : OpB T X .Sub .sub (rI (fun _ _ => True) fun i j => .int (i - j)) := opB_int (fun pins s σ H x y v u Q I rx ry ⟨i,j,e1,e2,_,q⟩ => op_sub pins s σ H x y v u Q I rx ry ⟨i,j,e1,e2,q⟩) fun x y d hb => by
  obtain ⟨i,j,rfl,rfl,e⟩ := onZ_inv hb
  cases e
  exact ⟨i,j,rfl,rfl,trivial,rfl⟩
theorem opB_fdiv : OpB T X .FloorDiv .fdiv (rI CDiv fun i j => .int (i / j)) := opB_int op_fdiv fun x y d hb => by
  obtain ⟨i,j,rfl,rfl,e⟩ := onZ_inv hb
  obtain ⟨hz,e⟩ := iteN e
  cases e
  exact ⟨i,j,rfl,rfl,hz,rfl⟩
theorem opB_mod : OpB T X .Mod .mod (rI (fun _ j => 0 < j) fun i j => .int (i % j)) := opB_int op_mod fun x y d hb => by
  obtain ⟨i,j,rfl,rfl,e⟩ := onZ_inv hb
  obtain ⟨hz,e⟩ := iteN e
  cases e
  exact ⟨i,j,rfl,rfl,hz,rfl⟩
theorem opB_pow : OpB T X .Pow .pow (rI CPow fun i j => .int (i ^ j.toNat)) := opB_int op_pow fun x y d hb => by
  obtain ⟨i,j,rfl,rfl,e⟩ := onZ_inv hb
  obtain ⟨hz,e⟩ := iteN e
  cases e
  exact ⟨i,j,rfl,rfl,hz,rfl⟩
theorem opB_all {op : Operator} {o : Bop} (h : trOp op = some o) : ∃ r,OpB T X op o r := by
  cases op <;> simp [trOp] at h <;> subst h
  · exact ⟨_,opB_add⟩
  · exact ⟨_,opB_sub⟩
  · exact ⟨_,opB_mul⟩
  · exact ⟨_,opB_mod⟩
  · exact ⟨_,opB_pow⟩
  · exact ⟨_,opB_fdiv⟩
theorem snd_bin {op : Operator} {o : Bop} (ho : trOp op = some o) {a b : Expr} {xa xb : Ex} {pos} (ha : Snd T W X E a xa) (hb : Snd T W X E b xb) : Snd T W X E (.BinOp a op b pos) (.bin o xa xb) := by
  obtain ⟨r0,OB⟩ := opB_all (T:=T) (X:=X) ho
  obtain ⟨ta,pa,da⟩ := ha
  obtain ⟨tb,pb,db⟩ := hb
  refine ⟨_,pe_op OB.op pa pb,fun Γ G ρ σ H r Q he h hp => ?_⟩
  conv at he => lhs; whnf
  refine da.step he h hp fun x t v H1 hk s ok h1 hp1 => ?_
  refine db.step hk h1 hp1 fun y u w H2 hk s2 ok2 h2 hp2 => ?_
  split at hk
  · cases hk
  · rename_i d hb
    refine OB.run h (s.trans s2) (ok.mono s2) (ok2.start s) hb fun v' H' s3 ok3 => ?_
    have : r = .ok d (tagB d t u) := by
      cases d <;> (cases hk; rfl)
    subst this
    exact hp v' H' ((s.trans s2).trans s3) ok3
end
end Ev
set_option Elab.async false
set_option maxRecDepth 100000
set_option maxHeartbeats 1000000
namespace Ev
open PySem L2
section
variable {T : Tx} {W : Wd} {X : Cx} {E : XK} {Γ : Ctx} {G : List Gh} {ρ : Env} {σ : St} {H H1 H2 H' : Hp} {C C' : Addr → Prop} {Q : VK} {r : Res} {d x y : D} {t u : Tag} {v w vx vy : V} {b : Bool}
theorem eqF_flat (h : eqF x y = some b) (rx : Rep T H C x vx) (ry : Rep T H C' y vy) : flatV vx = true ∧ flatV vy = true ∧ b = eqV vx vy ∧ scal vx vy = true ∧ b = decide (vx = vy) := by
  cases x with
  | non =>
    cases (show vx = .non from rx)
    cases y with
    | non => cases (show vy = .non from ry); cases h; exact ⟨rfl,rfl,rfl,rfl,rfl⟩
    | bl a => cases (show vy = .bl a from ry); cases h; exact ⟨rfl,rfl,rfl,rfl,rfl⟩
    | int a => cases (show vy = .int a from ry); cases h; exact ⟨rfl,rfl,rfl,rfl,rfl⟩
    | _ => cases h
  | bl a =>
    cases (show vx = .bl a from rx)
    cases y with
    | non => cases (show vy = .non from ry); cases h; exact ⟨rfl,rfl,rfl,rfl,rfl⟩
    | bl c => cases (show vy = .bl c from ry); cases h; exact ⟨rfl,rfl,rfl,rfl,dec_bl.symm⟩
    | _ => cases h
  | int a =>
    cases (show vx = .int a from rx)
    cases y with
    | non => cases (show vy = .non from ry); cases h; exact ⟨rfl,rfl,rfl,rfl,rfl⟩
    | int c => cases (show vy = .int c from ry); cases h; exact ⟨rfl,rfl,rfl,rfl,dec_int.symm⟩
    | _ => cases h
  | _ => cases h
def eAt (f : D → D → Option Bool) (a b : List D) (i : Nat) : Bool := ((a[i]?).bind fun x => (b[i]?).bind fun y => f x y).getD false
theorem eqL_all {f : D → D → Option Bool} : ∀ {a b : List D} {z : Bool},eqL f a b = some z → a.length = b.length ∧ (∀ (i : Nat) x y,a[i]? = some x → b[i]? = some y → f x y = some (eAt f a b i)) ∧ z = (List.range a.length).all (eAt f a b)
  | [],b,z,h => by
    obtain ⟨hb,h1⟩ := iteN h
    rw [emp_eq hb,← Option.some.inj h1]
    exact ⟨rfl,fun i x y e => by simp at e,rfl⟩
  | x :: a,b0,z,h => by
    obtain ⟨q,hq0,h1⟩ := bndI h
    obtain ⟨p,hp,h2⟩ := bndI h1
    obtain ⟨w,hq,e⟩ := mapI h2
    clear h h1 h2
    rw [unc_eq hq0,← e]
    clear hq0 e
    obtain ⟨h1,h2,h3⟩ := eqL_all hq
    refine ⟨congrArg Nat.succ h1,fun i x' y' e1 e2 => ?_,?_⟩
    · cases i with
      | zero => cases e1; cases e2; show _ = some ((f x q.1).getD false); rw [hp]; rfl
      | succ i => exact h2 i x' y' e1 e2
    · rw [List.length_cons,List.range_succ_eq_map,List.all_cons,List.all_map,h3]
      show _ = (((f x q.1).getD false) && _)
      rw [hp]; rfl
theorem eqDn_same {pins : List (Addr × Obj)} {s : Shared} (I : Inv X pins σ H s) (hK : X.K = T.K) : ∀ (n : Nat) {x y : D} {b : Bool} {v : V} {C C' : Addr → Prop},eqDn n x y = some b → Rep T H C x v → Rep T H C' y v → b = true := by
  have flat : ∀ {x y : D} {b : Bool} {v : V} {C C' : Addr → Prop},eqF x y = some b → Rep T H C x v → Rep T H C' y v → b = true := fun h r1 r2 => by
    have := (eqF_flat h r1 r2).2.2.2.2
    simpa using this
  intro n
  induction n with
  | zero => intro x y b v C C' h r1 r2; exact flat h r1 r2
  | succ n ih =>
    have lists : ∀ {a c : List D} {z : Bool} {xs : List V} {C C' : Addr → Prop},eqL (eqDn n) a c = some z → Reps T H C a xs → Reps T H C' c xs → z = true := fun {a c z xs C C'} h r1 r2 => by
      obtain ⟨_,h2,h3⟩ := eqL_all h
      rw [h3,List.all_eq_true]
      intro i hi
      have hi' : i < a.length := by simpa using hi
      have e1 : a[i]? = some a[i] := List.getElem?_eq_getElem hi'
      obtain ⟨v,hv,q1⟩ := r1.get e1
      obtain ⟨y,hy,q2⟩ := r2.get' hv
      exact ih (h2 i _ _ e1 hy) q1 q2
    intro x y b v C C' h r1 r2
    rcases eqS_inv h with h | ⟨a,c,ex,ey,h⟩ | ⟨a,c,ex,ey,hl,h⟩
    · exact flat h r1 r2
    · rw [ex] at r1
      rw [ey] at r2
      obtain ⟨p,xs,e1,_,hp,q1⟩ := r1
      obtain ⟨p',xs',e,_,hp',q2⟩ := r2
      rw [e1] at e; cases e
      rw [hp] at hp'; cases hp'
      rcases h with ⟨_,h⟩ | ⟨ne,_⟩
      · exact lists h q1 q2
      · exact absurd (q1.length.symm.trans q2.length) ne
    · rw [ex] at r1
      rw [ey] at r2
      obtain ⟨p,xs,e1,hp,q1⟩ := r1
      obtain ⟨p',xs',e,hp',q2⟩ := r2
      rw [e1] at e; cases e
      rw [← hK] at hp hp'
      rw [I.tuple_inj hp hp'] at q1
      exact lists h q1 q2
theorem eqR_of {pins : List (Addr × Obj)} {s : Shared} (I : Inv X pins σ H s) (hK : X.K = T.K) : ∀ (n : Nat) {x y : D} {b : Bool} {v w : V} {C C' : Addr → Prop},eqDn n x y = some b → Rep T H C x v → Rep T H C' y w → EqR X.K H n v w b := by
  have flat : ∀ {n : Nat} {x y : D} {b : Bool} {v w : V} {C C' : Addr → Prop},eqF x y = some b → Rep T H C x v → Rep T H C' y w → EqR X.K H n v w b := fun h r1 r2 => by
    obtain ⟨h1,h2,h3,_⟩ := eqF_flat h r1 r2
    rw [h3]; exact .flat h1 h2
  intro n
  induction n with
  | zero => intro x y b v w C C' h r1 r2; exact flat h r1 r2
  | succ n ih =>
    intro x y b v w C C' h r1 r2
    have same := fun hvw : v = w => eqDn_same I hK (n + 1) h r1 (by rw [hvw]; exact r2)
    rcases eqS_inv h with h | ⟨a,c,ex,ey,h⟩ | ⟨a,c,ex,ey,hl,h⟩
    · exact flat h r1 r2
    · rw [ex] at r1
      rw [ey] at r2
      obtain ⟨p,xs,e1,_,hp,q1⟩ := r1
      obtain ⟨p',xs',e2,_,hp',q2⟩ := r2
      rw [e1,e2] at same ⊢
      clear ex ey e1 e2
      by_cases ne : p = p'
      · rw [same (by rw [ne]),ne]; exact .same p'
      clear same
      rcases h with ⟨hl,h⟩ | ⟨hl,h⟩
      · obtain ⟨_,h2,h3⟩ := eqL_all h
        rw [h3,← q1.length]
        refine .lists ne (SqL.of hp) (SqL.of hp') (by rw [q1.length,q2.length]; exact hl) fun i x y e1 e2 => ?_
        obtain ⟨dx,f1,g1⟩ := q1.get' e1
        obtain ⟨dy,f2,g2⟩ := q2.get' e2
        exact ih (h2 i _ _ f1 f2) g1 g2
      · rw [h]
        exact .lens ne (SqL.of hp) (SqL.of hp') (by rw [q1.length,q2.length]; exact hl)
    · rw [ex] at r1
      rw [ey] at r2
      obtain ⟨p,xs,e1,hp,q1⟩ := r1
      obtain ⟨p',xs',e2,hp',q2⟩ := r2
      rw [e1,e2] at same ⊢
      clear ex ey e1 e2
      by_cases ne : p = p'
      · rw [same (by rw [ne]),ne]; exact .same p'
      clear same
      obtain ⟨_,h2,h3⟩ := eqL_all h
      have z : b = ((List.range (min xs.length xs'.length)).all (eAt (eqDn n) a c) && xs.length == xs'.length) := by
        rw [h3,q1.length,q2.length,← hl,Nat.min_self,beq_self_eq_true,Bool.and_true]
      rw [z]
      refine .tups ne (by rw [hK]; exact hp) (by rw [hK]; exact hp') fun i x y e1 e2 => ?_
      obtain ⟨dx,f1,g1⟩ := q1.get' e1
      obtain ⟨dy,f2,g2⟩ := q2.get' e2
      exact ih (h2 i _ _ f1 f2) g1 g2
structure OpC (T : Tx) (X : Cx) (op : CmpOp) (o : Cop) (r : R2) : Prop where
  op : OpR X (compareOp op) r
  run : ∀ {H : Hp} {x y : D} {C C' : Addr → Prop} {vx vy : V} {b : Bool} {Q : VK},Rep T H C x vx → Rep T H C' y vy → cmpD o x y = some b → Q (.bl b) H → r vx vy H Q
def rEqD (T : Tx) (ng : Bool) : R2 := fun vx vy H Q => ∃ x y b,Rep T H (fun _ => True) x vx ∧ Rep T H (fun _ => True) y vy ∧ eqD x y = some b ∧ Q (.bl (ng ^^ b)) H
theorem op_eqD (hK : X.K = T.K) (hu : X.A.units + 30 < cLine) : OpR X (compareOp .Eq) (rEqD T false) := by
  intro pins s σ H vx vy v u Q I rx ry h
  obtain ⟨x,y,b,r1,r2,he,q⟩ := h
  rw [Bool.false_xor] at q
  rcases eqS_inv (f:=eqDn 5) he with h | ⟨a,c,ex,ey,h⟩ | ⟨a,c,ex,ey,hl,h⟩
  · obtain ⟨_,_,_,h4,h5⟩ := eqF_flat h r1 r2
    exact op_eq pins s σ H vx vy v u Q I rx ry ⟨h4,by rw [← h5]; exact q⟩
  · rw [ex] at r1
    rw [ey] at r2
    obtain ⟨p,xs,e1,_,hp,q1⟩ := r1
    obtain ⟨p',xs',e2,_,hp',q2⟩ := r2
    clear he ex ey
    refine op_eqL hu pins s σ H _ _ v u Q I rx ry ⟨p,p',xs,xs',e1,e2,SqL.of hp,SqL.of hp',?_⟩
    rcases h with ⟨hl,h⟩ | ⟨hl,h⟩
    · obtain ⟨_,h2,h3⟩ := eqL_all h
      refine .inr ⟨by rw [q1.length,q2.length]; exact hl,5,eAt (eqDn 5) a c,by decide,fun i x y e1 e2 => ?_,?_⟩
      · obtain ⟨dx,f1,g1⟩ := q1.get' e1
        obtain ⟨dy,f2,g2⟩ := q2.get' e2
        exact eqR_of I hK 5 (h2 i _ _ f1 f2) g1 g2
      · rw [q1.length,← h3,Bool.false_xor]; exact q
    · rw [h] at q
      exact .inl ⟨by rw [q1.length,q2.length]; exact hl,q⟩
  · rw [ex] at r1
    rw [ey] at r2
    obtain ⟨p,xs,e1,hp,q1⟩ := r1
    obtain ⟨p',xs',e2,hp',q2⟩ := r2
    clear he ex ey
    obtain ⟨_,h2,h3⟩ := eqL_all h
    rw [← hK] at hp hp'
    rw [e1] at rx
    rw [e2] at ry
    cases rx; cases ry
    obtain ⟨us,k1,p1,_⟩ := I.tuple hp
    obtain ⟨vs,k2,p2,_⟩ := I.tuple hp'
    have z1 : us.toArray.size = a.length := by rw [List.size_toArray,← q1.length]; exact k1.length.symm
    have z2 : vs.toArray.size = a.length := by rw [List.size_toArray,hl,← q2.length]; exact k2.length.symm
    refine SeqAt.eq_tupleAt (e:=eAt (eqDn 5) a c) (show s.heap.IsTuple p us.toArray from p1) (show s.heap.IsTuple p' vs.toArray from p2) (by omega) (fun j g1 g2 => ?_) ?_
    · obtain ⟨x,y,e1,e2,ru,rv⟩ := pair_at k1 k2 g1 g2
      obtain ⟨dx,f1,n1⟩ := q1.get' e1
      obtain ⟨dy,f2,n2⟩ := q2.get' e2
      exact eqR_at I (eqR_of I hK 5 (h2 j _ _ f1 f2) n1 n2) (by show X.A.units + 1 + 5 < cLine; omega) ru rv
    · refine ⟨.bl b,H,I,?_,q⟩
      rw [z1,z2,h3]; simp [RelV]
theorem op_neD (hK : X.K = T.K) (hu : X.A.units + 30 < cLine) : OpR X (compareOp .NotEq) (rEqD T true) := by
  intro pins s σ H vx vy v u Q I rx ry h
  obtain ⟨x,y,b,r1,r2,he,q⟩ := h
  rw [Bool.true_xor] at q
  rcases eqS_inv (f:=eqDn 5) he with h | ⟨a,c,ex,ey,h⟩ | ⟨a,c,ex,ey,hl,h⟩
  · obtain ⟨_,_,_,h4,h5⟩ := eqF_flat h r1 r2
    exact op_ne pins s σ H vx vy v u Q I rx ry ⟨h4,by rw [← h5]; exact q⟩
  · rw [ex] at r1
    rw [ey] at r2
    obtain ⟨p,xs,e1,_,hp,q1⟩ := r1
    obtain ⟨p',xs',e2,_,hp',q2⟩ := r2
    clear he ex ey
    refine op_neL hu pins s σ H _ _ v u Q I rx ry ⟨p,p',xs,xs',e1,e2,SqL.of hp,SqL.of hp',?_⟩
    rcases h with ⟨hl,h⟩ | ⟨hl,h⟩
    · obtain ⟨_,h2,h3⟩ := eqL_all h
      refine .inr ⟨by rw [q1.length,q2.length]; exact hl,5,eAt (eqDn 5) a c,by decide,fun i x y e1 e2 => ?_,?_⟩
      · obtain ⟨dx,f1,g1⟩ := q1.get' e1
        obtain ⟨dy,f2,g2⟩ := q2.get' e2
        exact eqR_of I hK 5 (h2 i _ _ f1 f2) g1 g2
      · rw [q1.length,← h3,Bool.true_xor]; exact q
    · rw [h] at q
      exact .inl ⟨by rw [q1.length,q2.length]; exact hl,q⟩
  · rw [ex] at r1
    rw [ey] at r2
    obtain ⟨p,xs,e1,hp,q1⟩ := r1
    obtain ⟨p',xs',e2,hp',q2⟩ := r2
    clear he ex ey
    obtain ⟨_,h2,h3⟩ := eqL_all h
    rw [← hK] at hp hp'
    rw [e1] at rx
    rw [e2] at ry
    cases rx; cases ry
    obtain ⟨us,k1,p1,_⟩ := I.tuple hp
    obtain ⟨vs,k2,p2,_⟩ := I.tuple hp'
    have z1 : us.toArray.size = a.length := by rw [List.size_toArray,← q1.length]; exact k1.length.symm
    have z2 : vs.toArray.size = a.length := by rw [List.size_toArray,hl,← q2.length]; exact k2.length.symm
    refine SeqAt.RcNeAt.tuples (e:=eAt (eqDn 5) a c) (show s.heap.IsTuple p us.toArray from p1) (show s.heap.IsTuple p' vs.toArray from p2) (by omega) (fun j g1 g2 => ?_) _ _ _ _ ?_
    · obtain ⟨x,y,e1,e2,ru,rv⟩ := pair_at k1 k2 g1 g2
      obtain ⟨dx,f1,n1⟩ := q1.get' e1
      obtain ⟨dy,f2,n2⟩ := q2.get' e2
      exact eqR_at I (eqR_of I hK 5 (h2 j _ _ f1 f2) n1 n2) (by show X.A.units + 1 + 5 < cLine; omega) ru rv
    · refine ⟨.bl (!b),H,I,?_,q⟩
      rw [z1,z2,h3]; simp [RelV]
theorem opC_eq (hK : X.K = T.K) (hu : X.A.units + 30 < cLine) : OpC T X .Eq .eq (rEqD T false) := ⟨op_eqD hK hu,fun {H x y C C' vx vy b Q} r1 r2 h q => ⟨x,y,b,r1.any,r2.any,h,by rw [Bool.false_xor]; exact q⟩⟩
theorem opC_ne (hK : X.K = T.K) (hu : X.A.units + 30 < cLine) : OpC T X .NotEq .ne (rEqD T true) := ⟨op_neD hK hu,fun {H x y C C' vx vy b Q} r1 r2 h q => by
  simp only [cmpD,Option.map_eq_some_iff] at h
  obtain ⟨c,h,rfl⟩ := h
  exact ⟨x,y,c,r1.any,r2.any,h,by rw [Bool.true_xor]; exact q⟩⟩
theorem opC_int {op : CmpOp} {o : Cop} {g : Int → Int → Bool} (ho : OpR X (compareOp op) (rI0 fun i j => .bl (g i j))) (hd : ∀ x y b,cmpD o x y = some b → ∃ i j,x = .int i ∧ y = .int j ∧ b = g i j) : OpC T X op o (rI0 fun i j => .bl (g i j)) :=
  ⟨ho,fun {H x y C C' vx vy b Q} r1 r2 h q => by
    obtain ⟨i,j,rfl,rfl,rfl⟩ := hd _ _ _ h
    exact ⟨i,j,r1,r2,q⟩⟩
theorem opC_le : OpC T X .LtE .le (rI0 fun i j => .bl (decide (i ≤ j))) := opC_int op_le fun x y b h => by
  exact onZB_inv h
theorem opC_gt : OpC T X .Gt .gt (rI0 fun i j => .bl (decide (j < i))) := opC_int op_gt fun x y b h => by
  exact onZB_inv h
theorem opC_ge : OpC T X .GtE .ge (rI0 fun i j => .bl (decide (j ≤ i))) := opC_int op_ge fun x y b h => by
  exact onZB_inv h
theorem toTie_rep {p : Int × Int} (h : toTie x = some p) (r : Rep T H C x v) : ∃ a,v = .ref a ∧ SqT T.K H a ([p.1,p.2].map V.int) := by
  rw [toTie_eq h] at r
  obtain ⟨a,xs,e,q,w,ws,rfl,rfl,w2,ws2,rfl,rfl,rfl⟩ := r
  exact ⟨a,e,q⟩
theorem lexLt_tie (p q : Int × Int) : HT.lexLt [p.1,p.2] [q.1,q.2] = tltB p q := by
  unfold tltB
  simp only [HT.lexLt]
  by_cases h : p.1 = q.1
  · by_cases h2 : p.2 = q.2
    · simp [h,h2]
    · simp [h,h2]
  · simp [h]
theorem opC_lt (hK : X.K = T.K) (hu : X.A.units < cLine) : OpC T X .Lt .lt (fun x y H Q => rI0 (fun i j => .bl (decide (i < j))) x y H Q ∨ rLtT X.K x y H Q) := ⟨OpR.or op_lt (op_ltT hu),fun {H x y C C' vx vy b Q} r1 r2 h q => by
  have tie : ∀ {x y : D} {vx vy : V} {C C' : Addr → Prop},Rep T H C x vx → Rep T H C' y vy → ltT x y = some b → (rI0 (fun i j => .bl (decide (i < j))) vx vy H Q ∨ rLtT X.K vx vy H Q) := fun {x y vx vy C C'} r1 r2 h => by
    obtain ⟨p1,e1,h1⟩ := bndI h
    obtain ⟨p2,e2,e⟩ := mapI h1
    obtain ⟨a,z1,q1⟩ := toTie_rep e1 r1
    obtain ⟨a',z2,q2⟩ := toTie_rep e2 r2
    refine .inr ⟨a,a',_,_,z1,z2,by rw [hK]; exact q1,by rw [hK]; exact q2,?_⟩
    rw [lexLt_tie,e]; exact q
  cases x with
  | int i => cases y with
    | int j => cases h; exact .inl ⟨_,_,r1,r2,q⟩
    | _ => exact tie r1 r2 h
  | _ => exact tie r1 r2 h⟩
theorem inD_ok (hx : Rep T H C x vx) : ∀ {ds : List D} {xs : List V} {b : Bool},inD x ds = some b → Reps T H C' ds xs → xs.all flatV = true ∧ inV vx xs = b
  | [],_,b,h,r => by cases h; cases r; exact ⟨rfl,rfl⟩
  | d :: ds,_,b,h,⟨w,ws,e,r,rs⟩ => by
    subst e
    obtain ⟨p,hp,h0⟩ := bndI h
    obtain ⟨q,hq,e⟩ := mapI h0
    obtain ⟨h1,h2,h3,_⟩ := eqF_flat hp r hx
    obtain ⟨k1,k2⟩ := inD_ok hx hq rs
    refine ⟨by rw [List.all_cons,h1,k1]; rfl,?_⟩
    unfold inV at k2 ⊢
    rw [List.any_cons,k2,← e,h3]
theorem flatD_ok (h : flatD x = true) (r : Rep T H C x v) : flatV v = true := by
  cases x <;> simp [flatD] at h <;> (simp only [Rep] at r; subst r; rfl)
def rInD (T : Tx) (ng : Bool) : R2 := fun vx vy H Q => ∃ (x : D) (ds : List D) (p : Addr) (xs : List V) (b : Bool) (C C' : Addr → Prop),vy = .ref p ∧ SqL T.K H p xs ∧ Rep T H C x vx ∧ Reps T H C' ds xs ∧ inG x ds = some b ∧ Q (.bl (if ng then !b else b)) H
theorem inG_at {pins : List (Addr × Obj)} {s : Shared} (I : Inv X pins σ H s) (hK : X.K = T.K) (hu : X.A.units + 30 < cLine) {x : D} {vx : V} {v : Value} {ds : List D} {xs : List V} {its : List Value} {b : Bool} (rx : RelV vx v) (r1 : Rep T H C x vx) (rs : Reps T H C' ds xs) (r : Vals xs its) (h : inG x ds = some b) :
    ∃ e : Value → Bool,(∀ u ∈ its.toArray,SeqAt.EqAt X.A.in1 s u v (e u)) ∧ its.toArray.any e = b := by
  obtain ⟨h1,h2⟩ := inG_spec h
  let P : Value → Prop := fun u => ∃ (j : Nat) (d : D),its[j]? = some u ∧ ds[j]? = some d ∧ eqDn 5 d x = some true
  have look : ∀ (j : Nat) (u : Value),its[j]? = some u → ∃ d a,ds[j]? = some d ∧ eqDn 5 d x = some a ∧ SeqAt.EqAt X.A.in1 s u v a := fun j u hj => by
    have hl := r.length
    have lt : j < xs.length := by rw [hl]; exact (List.getElem?_eq_some_iff.mp hj).1
    have e1 : xs[j]? = some xs[j] := List.getElem?_eq_getElem lt
    obtain ⟨d,f1,g1⟩ := rs.get' e1
    obtain ⟨u',hu',ru⟩ := r.get e1
    rw [hj] at hu'
    cases hu'
    obtain ⟨a,ha⟩ := h1 d (List.mem_of_getElem? f1)
    exact ⟨d,a,f1,ha,eqR_at I (eqR_of I hK 5 ha g1 r1) (by show X.A.units + 1 + 5 < cLine; omega) ru rx⟩
  refine ⟨fun u => @decide (P u) (Classical.propDecidable _),fun u hu => ?_,?_⟩
  · obtain ⟨j,hj⟩ := List.getElem?_of_mem (show u ∈ its by simpa using hu)
    show SeqAt.EqAt X.A.in1 s u v (@decide (P u) (Classical.propDecidable _))
    by_cases hP : P u
    · rw [@decide_eq_true _ (Classical.propDecidable _) hP]
      obtain ⟨k,d,k1,k2,k3⟩ := hP
      obtain ⟨d',a,f1,f2,f3⟩ := look k u k1
      rw [k2] at f1
      cases f1
      rw [k3] at f2
      cases f2
      exact f3
    · rw [@decide_eq_false _ (Classical.propDecidable _) hP]
      obtain ⟨d,a,f1,f2,f3⟩ := look j u hj
      cases a with
      | true => exact absurd ⟨j,d,hj,f1,f2⟩ hP
      | false => exact f3
  · rw [List.any_toArray,Bool.eq_iff_iff,h2,List.any_eq_true]
    constructor
    · rintro ⟨u,_,hu⟩
      obtain ⟨j,d,_,k2,k3⟩ := @of_decide_eq_true _ (Classical.propDecidable _) hu
      exact ⟨d,List.mem_of_getElem? k2,k3⟩
    · rintro ⟨d,hd,k3⟩
      obtain ⟨j,k2⟩ := List.getElem?_of_mem hd
      have lt : j < its.length := by rw [← r.length,rs.length]; exact (List.getElem?_eq_some_iff.mp k2).1
      exact ⟨its[j],List.getElem_mem lt,@decide_eq_true _ (Classical.propDecidable _) ⟨j,d,List.getElem?_eq_getElem lt,k2,k3⟩⟩
theorem op_inD (hK : X.K = T.K) (hu : X.A.units + 30 < cLine) : OpR X (compareOp .In) (rInD T false) := by
  intro pins s σ H vx vy v u Q I rx ry h
  obtain ⟨x,ds,p,xs,b,C,C',e0,hq,r1,rs,h,q⟩ := h
  rw [e0] at ry
  cases ry
  rw [← hK] at hq
  obtain ⟨its,r,pl,hz⟩ := I.list hq
  obtain ⟨e,h1,h2⟩ := inG_at I hK hu rx r1 rs r h
  exact SeqAt.in_listAt e pl.isList h1 ⟨.bl _,H,I,rfl,by rw [h2]; exact q⟩
theorem op_notInD (hK : X.K = T.K) (hu : X.A.units + 30 < cLine) : OpR X (compareOp .NotIn) (rInD T true) := by
  intro pins s σ H vx vy v u Q I rx ry h
  obtain ⟨x,ds,p,xs,b,C,C',e0,hq,r1,rs,h,q⟩ := h
  rw [e0] at ry
  cases ry
  rw [← hK] at hq
  obtain ⟨its,r,pl,hz⟩ := I.list hq
  obtain ⟨e,h1,h2⟩ := inG_at I hK hu rx r1 rs r h
  exact SeqAt.notIn_listAt e pl.isList h1 ⟨.bl _,H,I,rfl,by rw [h2]; exact q⟩
theorem opC_in0 {ng : Bool} (hK : X.K = T.K) {x y : D} {vx vy : V} (r1 : Rep T H C x vx) (r2 : Rep T H C' y vy) (h : isinD x y = some b) (q : Q (.bl (if ng then !b else b)) H) : rIn X.K ng vx vy H Q ∨ rInD T ng vx vy H Q := by
  rcases isinD_inv h with ⟨ds,hy,hf,hi⟩ | ⟨ds,hy,hi⟩
  · rcases hy with rfl | rfl
    · obtain ⟨p,xs,rfl,_,hp,rs⟩ := r2
      obtain ⟨k1,k2⟩ := inD_ok r1 hi rs
      exact .inl ⟨p,xs,rfl,.inl (SqL.of hp),flatD_ok hf r1,k1,by rw [k2]; exact q⟩
    · obtain ⟨p,xs,rfl,hp,rs⟩ := r2
      obtain ⟨k1,k2⟩ := inD_ok r1 hi rs
      exact .inl ⟨p,xs,rfl,.inr (by rw [hK]; exact hp),flatD_ok hf r1,k1,by rw [k2]; exact q⟩
  · rw [hy] at r2
    obtain ⟨p,xs,e,_,hp,rs⟩ := r2
    exact .inr ⟨x,ds,p,xs,b,_,_,e,SqL.of hp,r1,rs,hi,q⟩
theorem opC_in (hK : X.K = T.K) (hu : X.A.units + 30 < cLine) : OpC T X .In .isin (fun x y H Q => rIn X.K false x y H Q ∨ rInD T false x y H Q) := ⟨OpR.or op_in_seq (op_inD hK hu),fun {H x y C C' vx vy b Q} r1 r2 h q => opC_in0 hK r1 r2 h q⟩
theorem opC_notin (hK : X.K = T.K) (hu : X.A.units + 30 < cLine) : OpC T X .NotIn .notin (fun x y H Q => rIn X.K true x y H Q ∨ rInD T true x y H Q) := ⟨OpR.or op_notIn_seq (op_notInD hK hu),fun {H x y C C' vx vy b Q} r1 r2 h q => by
  rw [show cmpD .notin x y = (isinD x y).map (!·) from rfl,Option.map_eq_some_iff] at h
  obtain ⟨c,h,rfl⟩ := h
  exact opC_in0 (ng:=true) hK r1 r2 h q⟩
theorem opC_all (hK : X.K = T.K) (hu : X.A.units + 30 < cLine) {op : CmpOp} {o : Cop} (h : trC op = some o) : ∃ r,OpC T X op o r := by
  cases op <;> simp [trC] at h <;> subst h
  · exact ⟨_,opC_eq hK hu⟩
  · exact ⟨_,opC_ne hK hu⟩
  · exact ⟨_,opC_lt hK (by omega)⟩
  · exact ⟨_,opC_le⟩
  · exact ⟨_,opC_gt⟩
  · exact ⟨_,opC_ge⟩
  · exact ⟨_,opC_in hK hu⟩
  · exact ⟨_,opC_notin hK hu⟩
def PostT (T : Tx) (E : XK) (H : Hp) (Q : Bool → Hp → Prop) : Res → Prop
  | .ok d _ => ∀ b H',d = .bl b → Same H H' → Q b H'
  | .exc c => ∀ H',Same H H' → E (T.cv c) none H'
def isB : Res → Prop
  | .ok d _ => ∃ b,d = .bl b
  | .exc _ => True
def DenT (T : Tx) (W : Wd) (E : XK) (t : TT) (x : Ex) : Prop := ∀ (Γ : Ctx) (G : List Gh) (ρ : Env) (σ : St) (H : Hp) (r : Res) (Q : Bool → Hp → Prop),evE W ρ x = some r → isB r → EnvOk T Γ G ρ σ H → PostT T E H Q r → t σ H Q
def SndT (T : Tx) (W : Wd) (X : Cx) (E : XK) (e : Expr) (x : Ex) : Prop := ∃ t,PT X e t ∧ DenT T W E t x
def SndW (T : Tx) (W : Wd) (X : Cx) (E : XK) (e : Expr) (x : Ex) : Prop := ∃ t,PW X e t ∧ DenT T W E t x
theorem SndW.tst {e : Expr} {x : Ex} (h : SndW T W X E e x) : SndT T W X E e x := let ⟨t,p,q⟩ := h; ⟨t,p.pt,q⟩
theorem Den.test {te : TE} {x : Ex} (h : Den T W E te x) : DenT T W E (tB te) x := fun Γ G ρ σ H r Q he hb hn hp => by
  refine h Γ G ρ σ H r _ he hn ?_
  cases r with
  | ok d t =>
    obtain ⟨b,rfl⟩ := hb
    exact fun v H' s ok => ⟨b,ok.any,hp b H' rfl s⟩
  | exc c => exact hp
theorem Den.test' {te : TE} {x : Ex} (h : Den T W E te x) : DenT T W E (tTest te) x := fun Γ G ρ σ H r Q he hb hn hp => by
  refine h Γ G ρ σ H r _ he hn ?_
  cases r with
  | ok d t =>
    obtain ⟨b,rfl⟩ := hb
    exact fun v H' s ok => ⟨b,ok.any,hp b H' rfl s⟩
  | exc c => exact hp
def NoMark (b : Expr) : Prop := ∀ op,behindInMarks op b = false
theorem den_cmp {op : CmpOp} {o : Cop} {r0 : R2} (OC : OpC T X op o r0) {ta tb : TE} {xa xb : Ex} (da : Den T W E ta xa) (db : Den T W E tb xb) : Den T W E (tOp r0 ta tb) (.cmp o xa xb) := fun Γ G ρ σ H r Q he h hp => by
  conv at he => lhs; whnf
  refine da.step he h hp fun x t v H1 hk s ok h1 hp1 => ?_
  refine db.step hk h1 hp1 fun y u w H2 hk s2 ok2 h2 hp2 => ?_
  unfold blR at hk
  split at hk
  · cases hk
  · rename_i b hb
    cases hk
    exact OC.run (ok.any.same s2) ok2.any hb (hp2 _ H2 (Same.refl _) rfl)
theorem snd_cmp {op : CmpOp} {o : Cop} {r0 : R2} (OC : OpC T X op o r0) {a b : Expr} {xa xb : Ex} {pos} (ha : Snd T W X E a xa) (hb : Snd T W X E b xb) (hm : NoMark b) : Snd T W X E (.Compare a [op] [b] pos) (.cmp o xa xb) ∧ SndT T W X E (.Compare a [op] [b] pos) (.cmp o xa xb) := by
  obtain ⟨ta,pa,da⟩ := ha
  obtain ⟨tb,pb,db⟩ := hb
  exact ⟨⟨_,pe_cmpR OC.op pa pb (hm _),den_cmp OC da db⟩,⟨_,pt_cmpR OC.op pa pb (hm _),(den_cmp OC da db).test'⟩⟩
theorem den_chain2 {op op' : CmpOp} {o o' : Cop} {r0 r1 : R2} (OC : OpC T X op o r0) (OC' : OpC T X op' o' r1) {ta tb tc : TE} {xa xb xc : Ex} (da : Den T W E ta xa) (db : Den T W E tb xb) (dc : Den T W E tc xc) :
    Den T W E (tChain r0 r1 ta tb tc) (.chain2 o o' xa xb xc) := fun Γ G ρ σ H r Q he h hp => by
  conv at he => lhs; whnf
  refine da.step he h hp fun x t v H1 hk s ok h1 hp1 => ?_
  refine db.step hk h1 hp1 fun y u w H2 hk s2 ok2 h2 hp2 => ?_
  split at hk
  · rename_i hb
    refine OC.run (ok.any.same s2) ok2.any hb ⟨true,rfl,?_⟩
    rw [if_pos rfl]
    refine dc.step hk h2 hp2 fun z t3 v3 H3 hk s3 ok3 h3 hp3 => ?_
    unfold blR at hk
    split at hk
    · cases hk
    · rename_i b hb
      cases hk
      exact OC'.run (ok2.any.same s3) ok3.any hb (hp3 _ H3 (Same.refl _) rfl)
  · rename_i hb
    cases hk
    refine OC.run (ok.any.same s2) ok2.any hb ⟨false,rfl,?_⟩
    rw [if_neg Bool.false_ne_true]
    exact hp2 _ H2 (Same.refl _) rfl
  · cases hk
theorem den_chain3 {op op' op'' : CmpOp} {o o' o'' : Cop} {r0 r1 r2 : R2} (OC : OpC T X op o r0) (OC' : OpC T X op' o' r1) (OC'' : OpC T X op'' o'' r2) {ta tb tc td : TE} {xa xb xc xd : Ex} (da : Den T W E ta xa) (db : Den T W E tb xb) (dc : Den T W E tc xc) (dd : Den T W E td xd) :
    Den T W E (tChain3 r0 r1 r2 ta tb tc td) (.chain3 o o' o'' xa xb xc xd) := fun Γ G ρ σ H r Q he h hp => by
  conv at he => lhs; whnf
  refine da.step he h hp fun x t v H1 hk s ok h1 hp1 => ?_
  refine db.step hk h1 hp1 fun y u w H2 hk s2 ok2 h2 hp2 => ?_
  split at hk
  · rename_i hb
    refine OC.run (ok.any.same s2) ok2.any hb ⟨true,rfl,?_⟩
    rw [if_pos rfl]
    refine dc.step hk h2 hp2 fun z t3 v3 H3 hk s3 ok3 h3 hp3 => ?_
    split at hk
    · rename_i hb3
      refine OC'.run (ok2.any.same s3) ok3.any hb3 ⟨true,rfl,?_⟩
      rw [if_pos rfl]
      refine dd.step hk h3 hp3 fun z4 t4 v4 H4 hk s4 ok4 h4 hp4 => ?_
      unfold blR at hk
      split at hk
      · cases hk
      · rename_i b hb
        cases hk
        exact OC''.run (ok3.any.same s4) ok4.any hb (hp4 _ H4 (Same.refl _) rfl)
    · rename_i hb3
      cases hk
      refine OC'.run (ok2.any.same s3) ok3.any hb3 ⟨false,rfl,?_⟩
      rw [if_neg Bool.false_ne_true]
      exact hp3 _ H3 (Same.refl _) rfl
    · cases hk
  · rename_i hb
    cases hk
    refine OC.run (ok.any.same s2) ok2.any hb ⟨false,rfl,?_⟩
    rw [if_neg Bool.false_ne_true]
    exact hp2 _ H2 (Same.refl _) rfl
  · cases hk
theorem snd_one {op : BoolOp} {a : Expr} {xa : Ex} {pos} (ha : Snd T W X E a xa) : Snd T W X E (.BoolOp op [a] pos) xa := let ⟨t,p,q⟩ := ha; ⟨t,pe_one p,q⟩
theorem sndW_one {op : BoolOp} {a : Expr} {xa : Ex} {pos} (ha : SndT T W X E a xa) : SndW T W X E (.BoolOp op [a] pos) xa := by
  obtain ⟨t,p,q⟩ := ha
  cases op with
  | And => exact ⟨t,pw_and1 p,q⟩
  | Or => exact ⟨t,pw_or1 p,q⟩
theorem snd_and {a b : Expr} {rest : List Expr} {xa xb : Ex} {pos} (ha : Snd T W X E a xa) (hb : Snd T W X E (.BoolOp .And (b :: rest) pos) xb) : Snd T W X E (.BoolOp .And (a :: b :: rest) pos) (.and xa xb) := by
  obtain ⟨ta,pa,da⟩ := ha
  obtain ⟨tb,pb,db⟩ := hb
  refine ⟨_,pe_and pa pb,fun Γ G ρ σ H r Q he h hp => ?_⟩
  conv at he => lhs; whnf
  refine da.step he h hp fun x t v H1 hk s ok h1 hp1 => ?_
  split at hk
  · exact ⟨true,ok.any,by rw [if_pos rfl]; exact db _ _ _ _ _ _ _ hk h1 hp1⟩
  · cases hk
    exact ⟨false,ok.any,by rw [if_neg Bool.false_ne_true]; exact hp1 _ H1 (Same.refl _) rfl⟩
  · cases hk
theorem snd_or {a b : Expr} {rest : List Expr} {xa xb : Ex} {pos} (ha : Snd T W X E a xa) (hb : Snd T W X E (.BoolOp .Or (b :: rest) pos) xb) : Snd T W X E (.BoolOp .Or (a :: b :: rest) pos) (.or xa xb) := by
  obtain ⟨ta,pa,da⟩ := ha
  obtain ⟨tb,pb,db⟩ := hb
  refine ⟨_,pe_or pa pb,fun Γ G ρ σ H r Q he h hp => ?_⟩
  conv at he => lhs; whnf
  refine da.step he h hp fun x t v H1 hk s ok h1 hp1 => ?_
  split at hk
  · exact ⟨false,ok.any,by rw [if_neg Bool.false_ne_true]; exact db _ _ _ _ _ _ _ hk h1 hp1⟩
  · cases hk
    exact ⟨true,ok.any,by rw [if_pos rfl]; exact hp1 _ H1 (Same.refl _) rfl⟩
  · cases hk
theorem DenT.step {ta : TT} {xa : Ex} (ha : DenT T W E ta xa) {k : D → Tag → Option Res} (hk : bindR (evE W ρ xa) k = some r) (kb : ∀ d t r,k d t = some r → ∃ b,d = .bl b) (h : EnvOk T Γ G ρ σ H) {Q0 : Bool → Hp → Prop} (hp : ∀ c,r = .exc c → ∀ H',Same H H' → E (T.cv c) none H') {Q' : Bool → Hp → Prop}
    (cont : ∀ b t H1,k (.bl b) t = some r → Same H H1 → EnvOk T Γ G ρ σ H1 → Q' b H1) : ta σ H Q' := by
  cases e : evE W ρ xa with
  | none => rw [e] at hk; cases hk
  | some r1 =>
    rw [e] at hk
    cases r1 with
    | exc c =>
      have z : r = .exc c := (Option.some.inj hk).symm
      exact ha Γ G ρ σ H _ _ e trivial h (hp c z)
    | ok d t =>
      obtain ⟨b,rfl⟩ := kb _ _ _ hk
      exact ha Γ G ρ σ H _ _ e ⟨b,rfl⟩ h fun b' H' eb s => by cases eb; exact cont b t H' hk s (h.mono s)
theorem PostT.mono {Q : Bool → Hp → Prop} (s : Same H H1) (h : PostT T E H Q r) : PostT T E H1 Q r := by
  cases r with
  | ok d t => exact fun b H' e s' => h b H' e (s.trans s')
  | exc c => exact fun H' s' => h H' (s.trans s')
theorem PostT.exc {Q : Bool → Hp → Prop} (h : PostT T E H Q r) : ∀ c,r = .exc c → ∀ H',Same H H' → E (T.cv c) none H' := fun c e => by subst e; exact h
theorem Post.exc' (h : Post T E Γ H Q r) : ∀ c,r = .exc c → ∀ H',Same H H' → E (T.cv c) none H' := fun c e => by subst e; exact h
theorem sndT_not {a : Expr} {xa : Ex} {pos} (ha : SndT T W X E a xa) : SndT T W X E (.UnaryOp .Not a pos) (.not xa) := by
  obtain ⟨ta,pa,da⟩ := ha
  refine ⟨_,pt_not pa,fun Γ G ρ σ H r Q he hb h hp => ?_⟩
  conv at he => lhs; whnf
  refine da.step (Q0:=Q) he (fun d t r z => by split at z <;> first | exact ⟨_,rfl⟩ | cases z) h hp.exc fun b t H1 hk s h1 => ?_
  cases hk
  exact hp _ H1 rfl s
theorem sndW_and {a b : Expr} {rest : List Expr} {xa xb : Ex} {pos} (ha : SndT T W X E a xa) (hb : SndW T W X E (.BoolOp .And (b :: rest) pos) xb) : SndW T W X E (.BoolOp .And (a :: b :: rest) pos) (.and xa xb) := by
  obtain ⟨ta,pa,da⟩ := ha
  obtain ⟨tb,pb,db⟩ := hb
  refine ⟨_,pw_and pa pb,fun Γ G ρ σ H r Q he hb h hp => ?_⟩
  conv at he => lhs; whnf
  refine da.step (Q0:=Q) he (fun d t r z => by split at z <;> first | exact ⟨_,rfl⟩ | cases z) h hp.exc fun b t H1 hk s h1 => ?_
  cases b with
  | true => rw [if_pos rfl]; exact db _ _ _ _ _ _ _ hk hb h1 (hp.mono s)
  | false => rw [if_neg Bool.false_ne_true]; cases hk; exact hp _ H1 rfl s
theorem sndW_or {a b : Expr} {rest : List Expr} {xa xb : Ex} {pos} (ha : SndT T W X E a xa) (hb : SndW T W X E (.BoolOp .Or (b :: rest) pos) xb) : SndW T W X E (.BoolOp .Or (a :: b :: rest) pos) (.or xa xb) := by
  obtain ⟨ta,pa,da⟩ := ha
  obtain ⟨tb,pb,db⟩ := hb
  refine ⟨_,pw_or pa pb,fun Γ G ρ σ H r Q he hb h hp => ?_⟩
  conv at he => lhs; whnf
  refine da.step (Q0:=Q) he (fun d t r z => by split at z <;> first | exact ⟨_,rfl⟩ | cases z) h hp.exc fun b t H1 hk s h1 => ?_
  cases b with
  | false => rw [if_neg Bool.false_ne_true]; exact db _ _ _ _ _ _ _ hk hb h1 (hp.mono s)
  | true => rw [if_pos rfl]; cases hk; exact hp _ H1 rfl s
theorem snd_ifx {c a b : Expr} {xc xa xb : Ex} {pos} (hc : SndT T W X E c xc) (ha : Snd T W X E a xa) (hb : Snd T W X E b xb) : Snd T W X E (.IfExp c a b pos) (.ifx xc xa xb) := by
  obtain ⟨tc,pc,dc⟩ := hc
  obtain ⟨ta,pa,da⟩ := ha
  obtain ⟨tb,pb,db⟩ := hb
  refine ⟨_,pe_ifExp pc pa pb,fun Γ G ρ σ H r Q he h hp => ?_⟩
  conv at he => lhs; whnf
  refine dc.step (Q0:=fun _ _ => True) he (fun d t r z => by split at z <;> first | exact ⟨_,rfl⟩ | cases z) h hp.exc' fun b t H1 hk s h1 => ?_
  cases b with
  | true => rw [if_pos rfl]; exact da _ _ _ _ _ _ _ hk h1 (hp.mono s)
  | false => rw [if_neg Bool.false_ne_true]; exact db _ _ _ _ _ _ _ hk h1 (hp.mono s)
end
end Ev
set_option Elab.async false
set_option maxRecDepth 100000
set_option maxHeartbeats 1000000
namespace Ev
open PySem L2
structure TxOk (T : Tx) : Prop where
  cl : Cls T.K T.CT
  nM : NoAttr T.K T.CT "many"
  nT : NoAttr T.K T.CT "ties"
section
variable {T : Tx} {W : Wd} {X : Cx} {E : XK} {Γ : Ctx} {G : List Gh} {ρ : Env} {σ : St} {H H1 H2 H' : Hp} {C C' : Addr → Prop} {Q : VK} {r : Res} {d x y : D} {t u : Tag} {v w vx vy : V} {b : Bool} {ds : List D} {ts : List Tag} {vs xs : List V}
theorem ixN_eq : @Ev.ixN = @L2.ixN := rfl
theorem atI_rep {i : Int} (h : Ev.atI ds i = some d) (r : Reps T H C ds xs) : ∃ v,L2.atI xs i = some v ∧ Rep T H C d v := by
  unfold Ev.atI at h
  cases e : Ev.ixN ds.length i with
  | none => rw [e] at h; cases h
  | some j =>
    rw [e] at h
    obtain ⟨v,h1,h2⟩ := r.get (show ds[j]? = some d from h)
    refine ⟨v,?_,h2⟩
    unfold L2.atI
    rw [r.length,← ixN_eq,e]
    exact h1
theorem scr_seq {ns : List Int} (h : Rep T H C (.scr ns) v) : ∃ a,v = .ref a ∧ SqL T.K H a (ns.map V.int) := by
  obtain ⟨a,e,q | q⟩ := h
  · exact ⟨a,e,.inl (.inr q)⟩
  · exact ⟨a,e,.inr q⟩
theorem run_ix (hK : X.K = T.K) (ox : ROk T Γ H H1 x t vx) (oy : Rep T H1 C y vy) (h : ixD x y = some d) (q : ∀ v,ROk T Γ H H1 d (Ev.rt d t.el) v → Q v H1) : rIx X.K vx vy H1 Q := by
  obtain ⟨i,hi,h1⟩ := Option.bind_eq_some_iff.mp h
  cases toInt_eq hi
  clear h hi
  have h := h1
  clear h1
  unfold ixS at h
  split at h
  · obtain ⟨a,xs,rfl,ha,rs⟩ := ox.list
    obtain ⟨v,h1,h2⟩ := atI_rep h rs
    exact .inl ⟨a,xs,_,v,rfl,oy,SqL.of ha,h1,q v (ROk.rt (ROk.of (h2.imp fun b z => by rw [TC.el]; exact z) el_no))⟩
  · obtain ⟨a,xs,rfl,ha,rs⟩ := ox.tuple
    obtain ⟨v,h1,h2⟩ := atI_rep h rs
    exact .inr (.inl ⟨a,xs,_,v,rfl,oy,by rw [hK]; exact ha,h1,q v (ROk.rt (ROk.of (h2.imp fun b z => by rw [TC.el]; exact z) el_no))⟩)
  · rename_i ns
    obtain ⟨a,rfl,ha⟩ := scr_seq ox.any
    rw [Option.map_eq_some_iff] at h
    obtain ⟨n,h,rfl⟩ := h
    have h' : L2.atI (ns.map V.int) i = some (V.int n) := by
      have : Ev.atI (ns.map D.int) i = some (D.int n) := by
        unfold Ev.atI at h ⊢
        rw [List.length_map]
        cases e : Ev.ixN ns.length i with
        | none => rw [e] at h; cases h
        | some j => rw [e] at h; simp only [Option.bind] at h ⊢; rw [List.getElem?_map,h]; rfl
      obtain ⟨v,h1,h2⟩ := atI_rep (T:=T) (H:=H) (C:=fun _ => True) this (reps_ints ns)
      rw [h1]; exact congrArg some h2
    refine .inl ⟨a,_,_,_,rfl,oy,by rw [hK]; exact ha,h',q _ ?_⟩
    exact rok_int
  · cases h
theorem snd_ix (hK : X.K = T.K) {a b : Expr} {xa xb : Ex} {pos} (ha : Snd T W X E a xa) (hb : Snd T W X E b xb) (hs : PlainIx b) : Snd T W X E (.Subscript a b pos) (.ix xa xb) := by
  obtain ⟨ta,pa,da⟩ := ha
  obtain ⟨tb,pb,db⟩ := hb
  refine ⟨_,pe_ix ix_seq pa pb hs,fun Γ G ρ σ H r Q he h hp => ?_⟩
  conv at he => lhs; whnf
  refine da.step he h hp fun x t v H1 hk s ok h1 hp1 => ?_
  refine db.step hk h1 hp1 fun y u w H2 hk s2 ok2 h2 hp2 => ?_
  split at hk
  · rename_i d hd
    cases hk
    exact run_ix hK (ok.mono s2) ok2.any hd fun v' ok' => hp v' H2 (s.trans s2) ok'
  · cases hk
def DenO (T : Tx) (W : Wd) (E : XK) (t : TO) (o : Option Ex) : Prop := ∀ (Γ : Ctx) (G : List Gh) (ρ : Env) (σ : St) (H : Hp) (r : Res) (Q : Option Int → Hp → Prop) (k : Option Int → Option Res),bindI (match o with | some e => some (evE W ρ e) | none => none) k = some r → EnvOk T Γ G ρ σ H →
  (∀ c,r = .exc c → ∀ H',Same H H' → E (T.cv c) none H') → (∀ i H1,k i = some r → Same H H1 → EnvOk T Γ G ρ σ H1 → Q i H1) → t σ H Q
def SndO (T : Tx) (W : Wd) (X : Cx) (E : XK) (e : Option Expr) (x : Option Ex) : Prop := ∃ t,PO X e t ∧ DenO T W E t x
theorem sndO_none : SndO T W X E none none := ⟨_,po_none,fun Γ G ρ σ H r Q k hk h hx q => q none H hk (Same.refl _) h⟩
theorem sndO_some {e : Expr} {x : Ex} (h : Snd T W X E e x) : SndO T W X E (some e) (some x) := by
  obtain ⟨te,pe,de⟩ := h
  refine ⟨_,po_some pe,fun Γ G ρ σ H r Q k hk h hx q => ?_⟩
  have hk : bindR (evE W ρ x) (fun y _ => match y with | .int i => k (some i) | _ => none) = some r := hk
  have hp : Post T E Γ H (fun _ _ => True) r := by
    cases r with
    | ok d t => exact fun _ _ _ _ => trivial
    | exc c => exact hx c rfl
  refine de.step hk h hp fun y u w H2 hk s2 ok2 h2 hp2 => ?_
  split at hk
  · rename_i i
    exact ⟨i,ok2.any,q (some i) H2 hk s2 h2⟩
  · cases hk
theorem cut_rep {lo hi : Option Int} (r : Reps T H C ds xs) : Reps T H C (cut ds lo hi) (cutV xs lo hi) := by
  have e : xs.length = ds.length := r.length
  have e1 : ∀ n k o,Ev.sIx n k o = HT.sIx n k o := fun n k o => by cases o <;> rfl
  unfold cut cutV
  rw [e,e1,e1]
  exact (r.drop _).take _
theorem snd_slice {a : Expr} {lo hi : Option Expr} {xa : Ex} {xl xh : Option Ex} {p2 pos} (ha : Snd T W X E a xa) (hl : SndO T W X E lo xl) (hh : SndO T W X E hi xh) : Snd T W X E (.Subscript a (.Slice lo hi none p2) pos) (.slice xa xl xh) := by
  obtain ⟨ta,pa,da⟩ := ha
  obtain ⟨tl,pl,dl⟩ := hl
  obtain ⟨th,ph,dh⟩ := hh
  refine ⟨_,pe_slice sl_list pa pl ph,fun Γ G ρ σ H r Q he h hp => ?_⟩
  rw [E_sl] at he
  refine da.step he h hp fun x t v H1 hk s ok h1 hp1 => ?_
  split at hk
  · rename_i ds
    refine dl Γ G ρ σ H1 r _ _ hk h1 hp1.exc' fun l H2 hk s2 h2 => ?_
    refine dh Γ G ρ σ H2 r _ _ hk h2 (hp1.mono s2).exc' fun u H3 hk s3 h3 => ?_
    cases hk
    obtain ⟨a,xs,rfl,ha,rs⟩ := (ok.mono (s2.trans s3)).list
    refine ⟨a,xs,rfl,SqL.of ha,fun p hp' => ?_⟩
    obtain ⟨s4,ok4⟩ := mkList (t:=t.el) h (s.trans (s2.trans s3)) hp' el_no (cut_rep (lo:=l) (hi:=u) (rs.imp fun b z => by rw [TC.el]; exact z))
    exact hp _ _ ((s.trans (s2.trans s3)).trans s4) ok4
  · cases hk
theorem look_many (n : Int) (l : Addr) : ([("many",V.int n),("ties",V.ref l)] : List (Str × V)).lookup ("many" : Str) = some (.int n) := by rw [List.lookup_cons_self]
theorem look_ties (n : Int) (l : Addr) : ([("many",V.int n),("ties",V.ref l)] : List (Str × V)).lookup ("ties" : Str) = some (.ref l) := by
  rw [List.lookup_cons,show (("ties" : Str) == "many") = false from by decide +kernel]
  exact List.lookup_cons_self
theorem tree_of {n : Int} (h : ROk T Γ H H' (.tree n ds) t v) : ∃ a dx l xs,v = .ref a ∧ H' a = some (.ins T.CT dx [("many",.int n),("ties",.ref l)]) ∧ TC Γ H t l ∧ H' l = some (.lst xs) ∧ Reps T H' (TC Γ H t) ds xs := by
  cases t with
  | new => obtain ⟨a,dx,l,xs,e,c,q,q',r⟩ := h; exact ⟨a,dx,l,xs,e,q,c,q',r⟩
  | cl c => obtain ⟨a,dx,l,xs,e,c,q,q',r⟩ := h; exact ⟨a,dx,l,xs,e,q,c,q',r⟩
  | own c => obtain ⟨a,xs,ds,h1,_⟩ := h; cases h1
theorem snd_fld (O : TxOk T) (hK : X.K = T.K) {a : Expr} {f : Str} {tf : Bool} {xa : Ex} {pos} (ha : Snd T W X E a xa) (hf : f = if tf then "ties" else "many") (hb : attributeBase a f X.env (eval a X.env) = eval a X.env) : Snd T W X E (.Attribute a f pos) (.fld xa tf) := by
  obtain ⟨ta,pa,da⟩ := ha
  refine ⟨_,pe_fld pa hb,fun Γ G ρ σ H r Q he h hp => ?_⟩
  conv at he => lhs; whnf
  refine da.step he h hp fun x t v H1 hk s ok h1 hp1 => ?_
  split at hk
  · rename_i n ts
    cases hk
    obtain ⟨a,dx,l,xs,rfl,q,_,q',rs⟩ := tree_of ok
    subst hf
    exact ⟨a,T.CT,dx,_,_,rfl,q,by rw [hK]; exact O.cl,by rw [hK]; exact O.nM,look_many _ _,hp1 _ H1 (Same.refl _) rfl⟩
  · rename_i n ts
    cases hk
    obtain ⟨a,dx,l,xs,rfl,q,c,q',rs⟩ := tree_of ok
    subst hf
    refine ⟨a,T.CT,dx,_,_,rfl,q,by rw [hK]; exact O.cl,by rw [hK]; exact O.nT,look_ties _ _,hp _ H1 s ?_⟩
    exact ROk.of ⟨l,xs,rfl,by rw [TC.el]; exact c,q',rs.imp fun b z => by rw [TC.el]; exact z⟩ el_no
  · cases hk
def RsOk (T : Tx) (Γ : Ctx) (H H' : Hp) : List D → List Tag → List V → Prop
  | [],ts,vs => ts = [] ∧ vs = []
  | d :: ds,ts,vs => ∃ t ts' v vs',ts = t :: ts' ∧ vs = v :: vs' ∧ ROk T Γ H H' d t v ∧ RsOk T Γ H H' ds ts' vs'
theorem RsOk.start (s : Same H H1) : ∀ {ds : List D} {ts : List Tag} {vs : List V},RsOk T Γ H1 H2 ds ts vs → RsOk T Γ H H2 ds ts vs
  | [],_,_,h => h
  | d :: ds,_,_,⟨t,ts',v,vs',e1,e2,o,r⟩ => ⟨t,ts',v,vs',e1,e2,o.start s,RsOk.start s r⟩
theorem RsOk.any : ∀ {ds : List D} {ts : List Tag} {vs : List V},RsOk T Γ H H' ds ts vs → Reps T H' (fun _ => True) ds vs
  | [],_,_,⟨_,h⟩ => h
  | d :: ds,_,_,⟨t,ts',v,vs',e1,e2,o,r⟩ => ⟨v,vs',e2,o.any,RsOk.any r⟩
theorem RsOk.joined (h : EnvOk T Γ G ρ σ H) : ∀ {ds : List D} {ts : List Tag} {vs : List V} {u : Tag},joinAll ts = some u → RsOk T Γ H H' ds ts vs → Reps T H' (TC Γ H u) ds vs ∧ ∀ c,u ≠ .own c
  | [],_,_,u,e,⟨e1,e2⟩ => by subst e1; subst e2; cases e; exact ⟨rfl,fun c z => nomatch z⟩
  | d :: ds,_,_,u,e,⟨t,ts',v,vs',e1,e2,o,r⟩ => by
    subst e1; subst e2
    cases t with
    | own c => simp [joinAll] at e
    | new =>
      simp only [joinAll] at e
      split at e
      · rename_i u' hu
        cases e
        obtain ⟨q,no⟩ := RsOk.joined h hu r
        exact ⟨⟨v,vs',rfl,(o.rep (fun c z => nomatch z)).imp fun b z => TC.join_l h z,q.imp fun b z => TC.join_r h z⟩,no⟩
      · cases e
    | cl c =>
      replace e : (match joinAll ts' with | some u => some ((Tag.cl c).join u) | none => none) = some u := by
        cases c with
        | dp => cases e
        | _ => exact e
      split at e
      · rename_i u' hu
        cases e
        obtain ⟨q,no⟩ := RsOk.joined h hu r
        refine ⟨⟨v,vs',rfl,(o.rep (fun c z => nomatch z)).imp fun b z => TC.join_l h z,q.imp fun b z => TC.join_r h z⟩,fun c' z => ?_⟩
        cases u' with
        | new => cases z
        | cl _ => cases z
        | own c'' => exact no c'' rfl
      · cases e
def PostA (T : Tx) (E : XK) (Γ : Ctx) (H : Hp) (Q : List V → Hp → Prop) : Ress → Prop
  | .ok ds ts => ∀ vs H',Same H H' → RsOk T Γ H H' ds ts vs → Q vs H'
  | .exc c => ∀ H',Same H H' → E (T.cv c) none H'
def DenA (T : Tx) (W : Wd) (E : XK) (t : TA) (xs : List Ex) : Prop := ∀ (Γ : Ctx) (G : List Gh) (ρ : Env) (σ : St) (H : Hp) (r : Ress) (Q : List V → Hp → Prop),evEs W ρ xs = some r → EnvOk T Γ G ρ σ H → PostA T E Γ H Q r → t σ H Q
def SndA (T : Tx) (W : Wd) (X : Cx) (E : XK) (es : List Expr) (xs : List Ex) : Prop := ∃ t,PA X es t ∧ DenA T W E t xs
def NoStar (e : Expr) : Prop := ∀ (es : List Expr) (env : PySem.Env),starEach (e :: es) env = (false,eval e env) :: starEach es env
theorem sndA_nil : SndA T W X E [] [] := ⟨_,pa_nil,fun Γ G ρ σ H r Q he h hp => by cases he; exact hp [] H (Same.refl _) ⟨rfl,rfl⟩⟩
theorem sndA_cons {e : Expr} {es : List Expr} {x : Ex} {xs : List Ex} (hs : NoStar e) (he : Snd T W X E e x) (hr : SndA T W X E es xs) : SndA T W X E (e :: es) (x :: xs) := by
  obtain ⟨te,pe,de⟩ := he
  obtain ⟨tr,pr,dr⟩ := hr
  refine ⟨_,pa_cons pe pr (hs _ _),fun Γ G ρ σ H r Q he h hp => ?_⟩
  conv at he => lhs; whnf
  cases e1 : evE W ρ x with
  | none => rw [e1] at he; cases he
  | some r1 =>
    rw [e1] at he
    cases r1 with
    | exc c => cases he; exact de Γ G ρ σ H _ _ e1 h hp
    | ok d t =>
      refine de Γ G ρ σ H _ _ e1 h fun v H1 s ok => ?_
      dsimp only at he
      cases e2 : evEs W ρ xs with
      | none => rw [e2] at he; cases he
      | some r2 =>
        rw [e2] at he
        cases r2 with
        | exc c => cases he; exact dr Γ G ρ σ H1 _ _ e2 (h.mono s) fun H' s' => hp H' (s.trans s')
        | ok ds ts =>
          cases he
          exact dr Γ G ρ σ H1 _ _ e2 (h.mono s) fun vs H2 s2 ok2 => hp (v :: vs) H2 (s.trans s2) ⟨t,ts,v,vs,rfl,rfl,ok.mono s2,ok2.start s⟩
theorem DenA.step {ta : TA} {xs : List Ex} (ha : DenA T W E ta xs) {k : List D → List Tag → Option Res} (hk : (match evEs W ρ xs with | some (.ok ds ts) => k ds ts | some (.exc c) => some (.exc c) | none => none) = some r) (h : EnvOk T Γ G ρ σ H) (hp : Post T E Γ H Q r) {Q' : List V → Hp → Prop}
    (cont : ∀ ds ts vs H1,k ds ts = some r → Same H H1 → RsOk T Γ H H1 ds ts vs → EnvOk T Γ G ρ σ H1 → Post T E Γ H1 Q r → Q' vs H1) : ta σ H Q' := by
  cases e : evEs W ρ xs with
  | none => rw [e] at hk; cases hk
  | some r1 =>
    rw [e] at hk
    cases r1 with
    | exc c =>
      have z : r = .exc c := (Option.some.inj hk).symm
      subst z
      exact ha Γ G ρ σ H _ _ e h hp
    | ok ds ts => exact ha Γ G ρ σ H _ _ e h fun v H' s q => cont ds ts v H' hk s q (h.mono s) (hp.mono s)
theorem snd_lst {es : List Expr} {xs : List Ex} {pos} (ha : SndA T W X E es xs) : Snd T W X E (.List es pos) (.lst xs) := by
  obtain ⟨ta,pa,da⟩ := ha
  refine ⟨_,pe_lst pa,fun Γ G ρ σ H r Q he h hp => ?_⟩
  conv at he => lhs; whnf
  refine da.step (k:=fun ds ts => match joinAll ts with | some u => if ds.length ≤ 1000 then some (.ok (.lst ds) (rts ds u)) else none | none => none) he h hp fun ds ts vs H1 hk s ok h1 hp1 => ?_
  split at hk
  · rename_i u hu
    split at hk
    · rename_i hl
      cases hk
      obtain ⟨rs,no⟩ := ok.joined h hu
      refine ⟨by rw [rs.length]; exact Nat.le_of_lt (small1000 hl),fun p hp' => ?_⟩
      obtain ⟨s4,ok4⟩ := mkList h s hp' no rs
      exact hp _ _ (s.trans s4) ok4
    · cases hk
  · cases hk
theorem snd_tup {es : List Expr} {xs : List Ex} {n pos} (ha : SndA T W X E es xs) : Snd T W X E (.Tuple es n pos) (.tup xs) := by
  obtain ⟨ta,pa,da⟩ := ha
  refine ⟨_,pe_tup pa,fun Γ G ρ σ H r Q he h hp => ?_⟩
  conv at he => lhs; whnf
  refine da.step (k:=fun ds ts => match joinAll ts with | some u => if ds.length ≤ 1000 then some (.ok (.tup ds) (rts ds u)) else none | none => none) he h hp fun ds ts vs H1 hk s ok h1 hp1 => ?_
  split at hk
  · rename_i u hu
    split at hk
    · rename_i hl
      cases hk
      obtain ⟨rs,no⟩ := ok.joined h hu
      refine ⟨by rw [rs.length]; exact Nat.le_of_lt (small1000 hl),fun p hp' => ?_⟩
      obtain ⟨s4,ok4⟩ := mkTup h s hp' no rs
      exact hp _ _ (s.trans s4) ok4
    · cases hk
  · cases hk
end
end Ev
set_option Elab.async false
set_option maxRecDepth 100000
set_option maxHeartbeats 1000000
namespace Ev
open PySem L2
section
variable {T : Tx} {W : Wd} {X : Cx} {E : XK} {Γ : Ctx} {G : List Gh} {ρ : Env} {σ : St} {H H1 H2 H' : Hp} {C C' : Addr → Prop} {Q : VK} {r : Res} {d x y : D} {t u : Tag} {v w vx vy : V} {b : Bool} {ds : List D} {ts : List Tag} {vs xs : List V}
theorem CallR.or {f : Value} {r r' : List V → Hp → VK → Prop} (h : CallR X f r) (h' : CallR X f r') : CallR X f (fun x H Q => r x H Q ∨ r' x H Q) := by
  intro pins s σ H xs us Q I rs q
  rcases q with q | q
  · exact h pins s σ H xs us Q I rs q
  · exact h' pins s σ H xs us Q I rs q
def RunB (T : Tx) (b : Blt) (r : List V → Hp → VK → Prop) : Prop := ∀ {Γ : Ctx} {G : List Gh} {ρ : Env} {σ : St} {H H1 : Hp} {ds : List D} {ts : List Tag} {vs : List V} {d : D} {Q : VK},EnvOk T Γ G ρ σ H → Same H H1 → RsOk T Γ H H1 ds ts vs → bltD b ds = some d →
  (∀ v H',Same H1 H' → ROk T Γ H H' d (tagL d ts) v → Q v H') → r vs H1 Q
theorem rs1 {ds : List D} {d : D} {ts : List Tag} {vs : List V} (h : RsOk T Γ H H' [d] ts vs) : ∃ t v,ts = [t] ∧ vs = [v] ∧ ROk T Γ H H' d t v := by
  obtain ⟨t,ts',v,vs',rfl,rfl,o,rfl,rfl⟩ := h
  exact ⟨t,v,rfl,rfl,o⟩
theorem rs2 {d d' : D} {ts : List Tag} {vs : List V} (h : RsOk T Γ H H' [d,d'] ts vs) : ∃ t v t' v',ts = [t,t'] ∧ vs = [v,v'] ∧ ROk T Γ H H' d t v ∧ ROk T Γ H H' d' t' v' := by
  obtain ⟨t,ts',v,vs',rfl,rfl,o,t',ts'',v',vs'',rfl,rfl,o',rfl,rfl⟩ := h
  exact ⟨t,v,t',v',rfl,rfl,o,o'⟩
theorem reps_ints_inv {ns : List Int} (h : Reps T H C (ns.map D.int) xs) : xs = ns.map V.int := by
  induction ns generalizing xs with
  | nil => exact h
  | cons n r ih => obtain ⟨w,ws,rfl,hw,hs⟩ := h; rw [List.map_cons,← ih hs]; exact congrArg (· :: ws) hw
theorem reps_bls_inv {ns : List Bool} (h : Reps T H C (ns.map D.bl) xs) : xs = ns.map V.bl := by
  induction ns generalizing xs with
  | nil => exact h
  | cons n r ih => obtain ⟨w,ws,rfl,hw,hs⟩ := h; rw [List.map_cons,← ih hs]; exact congrArg (· :: ws) hw
theorem reps_ties {as : List V} : ∀ {ts : List (Int × Int)} {as : List V},Reps T H C (ts.map tieD) as → TiesIn T.K H as ts
  | [],_,h => by cases h; exact .nil
  | t :: ts,_,⟨w,ws,e,hw,hs⟩ => by
    subst e
    obtain ⟨a,e,q⟩ := toTie_rep (x:=tieD t) (p:=t) rfl hw
    exact .cons ⟨a,e,q⟩ (reps_ties (as:=as) hs)
theorem ties_reps : ∀ {ts : List (Int × Int)} {as : List V},TiesIn T.K H as ts → Reps T H C (ts.map tieD) as
  | [],_,h => by cases h; rfl
  | t :: ts,_,.cons ⟨a,e,q⟩ hs => by
    subst e
    exact ⟨_,_,rfl,⟨a,_,rfl,q,_,_,rfl,rfl,_,_,rfl,rfl,rfl⟩,ties_reps hs⟩
theorem runB_len (hK : X.K = T.K) : RunB T .len (fun xs H Q => ∃ p ys,xs = [.ref p] ∧ (SqL X.K H p ys ∨ SqT X.K H p ys) ∧ Q (.int ys.length) H) := fun {Γ G ρ σ H H1 ds ts vs d Q} h s ok hb q => by
  obtain ⟨x,rfl,hb⟩ := on1_inv hb
  obtain ⟨t,v,rfl,rfl,o⟩ := rs1 (ds:=[]) ok
  cases x with
  | lst _ =>
    cases hb
    obtain ⟨a,xs,rfl,ha,rs⟩ := o.list
    refine ⟨a,xs,rfl,.inl (SqL.of ha),?_⟩
    rw [rs.length]; exact q _ H1 (Same.refl _) rfl
  | tup _ =>
    cases hb
    obtain ⟨a,xs,rfl,ha,rs⟩ := o.tuple
    refine ⟨a,xs,rfl,.inr (by rw [hK]; exact ha),?_⟩
    rw [rs.length]; exact q _ H1 (Same.refl _) rfl
  | scr _ =>
    cases hb
    obtain ⟨a,rfl,ha⟩ := scr_seq o.any
    refine ⟨a,_,rfl,.inl (by rw [hK]; exact ha),?_⟩
    rw [List.length_map]; exact q _ H1 (Same.refl _) rfl
  | _ => cases hb
theorem runB_list (hK : X.K = T.K) : RunB T .list (fun xs H Q => ∃ p ys,xs = [.ref p] ∧ (SqL X.K H p ys ∨ SqT X.K H p ys) ∧ ∀ l,H l = none → Q (.ref l) (L2.upd H l (.lst ys))) := fun {Γ G ρ σ H H1 ds ts vs d Q} h s ok hb q => by
  obtain ⟨x,rfl,hb⟩ := on1_inv hb
  obtain ⟨es,rfl,hb⟩ := onL_inv hb
  cases hb
  obtain ⟨t,v,rfl,rfl,o⟩ := rs1 (ds:=[]) ok
  obtain ⟨a,xs,rfl,ha,rs⟩ := o.list
  refine ⟨a,xs,rfl,.inl (SqL.of ha),fun l hl => ?_⟩
  obtain ⟨s4,ok4⟩ := mkList (t:=t.el) h s hl el_no (rs.imp fun b z => by rw [TC.el]; exact z)
  exact q _ _ s4 ok4
theorem runB_tuple : RunB T .tuple (fun xs H Q => ∃ p ys,xs = [.ref p] ∧ ((SqL X.K H p ys ∧ ∀ l,H l = none → Q (.ref l) (L2.upd H l (.tup ys))) ∨ (SqT X.K H p ys ∧ Q (.ref p) H))) := fun {Γ G ρ σ H H1 ds ts vs d Q} h s ok hb q => by
  obtain ⟨x,rfl,hb⟩ := on1_inv hb
  obtain ⟨es,rfl,hb⟩ := onL_inv hb
  obtain ⟨ns,hn,rfl⟩ := Option.map_eq_some_iff.mp hb
  obtain ⟨t,v,rfl,rfl,o⟩ := rs1 (ds:=[]) ok
  obtain ⟨a,xs,rfl,ha,rs⟩ := o.list
  rw [mapO_int hn] at rs
  have ex := reps_ints_inv rs
  refine ⟨a,xs,rfl,.inl ⟨SqL.of ha,fun l hl => ?_⟩⟩
  have rs' : Reps T H1 (TC Γ H .new) (ns.map D.int) xs := by rw [ex]; exact reps_ints ns
  obtain ⟨s4,ok4⟩ := mkTup (t:=.new) h s hl (fun c z => nomatch z) rs'
  have e : rts (ns.map D.int) .new = .new := by unfold rts; rw [if_pos (lfs_map_int ns)]
  rw [e] at ok4
  exact q _ _ s4 ok4
theorem runB_sorted (hK : X.K = T.K) : RunB T .sorted (fun xs H Q => (∃ (p : Addr) (ns : List Int),xs = [.ref p] ∧ SqL X.K H p (ns.map V.int) ∧ ns.length < 64 ∧
      ∀ l (ns' : List Int),H l = none → ns'.Perm ns → ns'.Pairwise (· ≤ ·) → Q (.ref l) (L2.upd H l (.lst (ns'.map V.int)))) ∨
    (∃ (p : Addr) (as : List V) (ts : List MT.Tie),xs = [.ref p] ∧ SqL X.K H p as ∧ TiesIn X.K H as ts ∧ ts.length < 64 ∧
      ∀ (l : Addr) (as' : List V) (ts' : List MT.Tie),H l = none → TiesIn X.K H as' ts' → ts'.Perm ts → ts'.Pairwise MT.tle → Q (.ref l) (L2.upd H l (.lst as')))) := fun {Γ G ρ σ H H1 ds ts vs d Q} h s ok hb q => by
  obtain ⟨x,rfl,hb1⟩ := on1_inv hb
  obtain ⟨es,rfl,hb2⟩ := onL_inv hb1
  obtain ⟨xs',hb3,rfl⟩ := Option.map_eq_some_iff.mp hb2
  clear hb hb1 hb2
  have hb := hb3
  obtain ⟨t,v,rfl,rfl,o⟩ := rs1 (ds:=[]) ok
  obtain ⟨a,xs,rfl,ha,rs⟩ := o.list
  unfold sortD at hb
  split at hb
  · rename_i hl
    split at hb
    · rename_i ns hn
      cases hb
      have e := mapO_int hn
      subst e
      cases reps_ints_inv rs
      refine .inl ⟨a,ns,rfl,SqL.of ha,by simpa using hl,fun l ns' hl' p1 p2 => ?_⟩
      rw [isortI_unique p1 p2]
      obtain ⟨s4,ok4⟩ := mkList (t:=t.el) h s hl' el_no (reps_ints (T:=T) (H:=H1) (C:=TC Γ H t.el) (isortI ns))
      exact q _ _ s4 ok4
    · split at hb
      · rename_i ns hn
        cases hb
        have e := mapO_tie hn
        subst e
        refine .inr ⟨a,xs,ns,rfl,SqL.of ha,by rw [hK]; exact reps_ties (as:=xs) rs,by simpa using hl,fun l as' ts' hl' r' p1 p2 => ?_⟩
        have e := isortT_unique p1 p2
        subst e
        rw [hK] at r'
        obtain ⟨s4,ok4⟩ := mkList (t:=t.el) h s hl' el_no (ties_reps (C:=TC Γ H t.el) r')
        exact q _ _ s4 ok4
      · cases hb
  · cases hb
theorem runB_abs : RunB T .abs (fun xs H Q => ∃ i,xs = [.int i] ∧ Q (.int (if i < 0 then -i else i)) H) := fun {Γ G ρ σ H H1 ds ts vs d Q} h s ok hb q => by
  obtain ⟨x,rfl,hb⟩ := on1_inv hb
  obtain ⟨i,rfl,hb⟩ := onI_inv hb
  cases hb
  obtain ⟨t,v,rfl,rfl,o⟩ := rs1 (ds:=[]) ok
  exact ⟨_,congrArg (fun z => [z]) o.any,q _ H1 (Same.refl _) rfl⟩
theorem runB_min : RunB T .min (fun xs H Q => ∃ i j,xs = [.int i,.int j] ∧ Q (.int (if j < i then j else i)) H) := fun {Γ G ρ σ H H1 ds ts vs d Q} h s ok hb q => by
  obtain ⟨x,y,rfl,hb⟩ := on2_inv hb
  obtain ⟨i,j,rfl,rfl,hb⟩ := onZ_inv hb
  cases hb
  obtain ⟨t,v,t',v',rfl,rfl,o,o'⟩ := rs2 ok
  cases (show v = .int _ from o.any)
  cases (show v' = .int _ from o'.any)
  exact ⟨_,_,rfl,q _ H1 (Same.refl _) rfl⟩
theorem runB_max : RunB T .max (fun xs H Q => ∃ i j,xs = [.int i,.int j] ∧ Q (.int (if j > i then j else i)) H) := fun {Γ G ρ σ H H1 ds ts vs d Q} h s ok hb q => by
  obtain ⟨x,y,rfl,hb⟩ := on2_inv hb
  obtain ⟨i,j,rfl,rfl,hb⟩ := onZ_inv hb
  cases hb
  obtain ⟨t,v,t',v',rfl,rfl,o,o'⟩ := rs2 ok
  cases (show v = .int _ from o.any)
  cases (show v' = .int _ from o'.any)
  exact ⟨_,_,rfl,q _ H1 (Same.refl _) rfl⟩
theorem runB_all : RunB T .all (fun xs H Q => ∃ (p : Addr) (bs : List Bool),xs = [.ref p] ∧ SqL X.K H p (bs.map V.bl) ∧ Q (.bl (bs.all fun b => b)) H) := fun {Γ G ρ σ H H1 ds ts vs d Q} h s ok hb q => by
  obtain ⟨x,rfl,hb1⟩ := on1_inv hb
  obtain ⟨es,rfl,hb2⟩ := onL_inv hb1
  obtain ⟨bs,hb3,rfl⟩ := Option.map_eq_some_iff.mp hb2
  clear hb hb1 hb2
  have hb := hb3
  obtain ⟨t,v,rfl,rfl,o⟩ := rs1 (ds:=[]) ok
  obtain ⟨a,xs,rfl,ha,rs⟩ := o.list
  have e := mapO_bl hb
  subst e
  cases reps_bls_inv rs
  exact ⟨a,bs,rfl,SqL.of ha,q _ H1 (Same.refl _) rfl⟩
theorem runB_int : RunB T .int (fun xs H Q => (∃ i,xs = [.int i] ∧ Q (.int i) H) ∨ ∃ k,xs = [.bl k] ∧ Q (.int (if k then 1 else 0)) H) := fun {Γ G ρ σ H H1 ds ts vs d Q} h s ok hb q => by
  obtain ⟨x,rfl,hb⟩ := on1_inv hb
  obtain ⟨t,v,rfl,rfl,o⟩ := rs1 (ds:=[]) ok
  cases x with
  | bl _ =>
    cases hb
    exact .inr ⟨_,congrArg (fun z => [z]) o.any,q _ H1 (Same.refl _) rfl⟩
  | int _ =>
    cases hb
    exact .inl ⟨_,congrArg (fun z => [z]) o.any,q _ H1 (Same.refl _) rfl⟩
  | _ => cases hb
theorem den_blt {b : Blt} {r0 : List V → Hp → VK → Prop} (R : RunB T b r0) {ta : TA} {xs : List Ex} (da : DenA T W E ta xs) : Den T W E (tCB r0 ta) (.blt b xs) := fun Γ G ρ σ H r Q he h hp => by
  conv at he => lhs; whnf
  refine da.step (k:=fun ds ts => match bltD b ds with | some d => some (.ok d (tagL d ts)) | none => none) he h hp fun ds ts vs H1 hk s ok h1 hp1 => ?_
  split at hk
  · rename_i d hd
    cases hk
    exact R h s ok hd fun v H' s' ok' => hp v H' (s.trans s') ok'
  · cases hk
theorem reps_range (lo : Int) (n : Nat) : Reps T H C (rangeD lo n) ((List.range n).map fun k : Nat => V.int (lo + (k : Int))) := by
  unfold rangeD
  induction (List.range n) with
  | nil => rfl
  | cons a r ih => exact ⟨_,_,rfl,rfl,ih⟩
theorem small_of {i : Int} (h : smallI i = true) : -(2 ^ 62) ≤ i ∧ i < 2 ^ 62 := by
  unfold smallI at h
  simp only [Bool.and_eq_true,decide_eq_true_eq] at h
  exact h
theorem rangeD_new {lo : Int} {n : Nat} : tagL (.lst (rangeD lo n)) ts = .new := by
  have : lfs (rangeD lo n) = true := by
    unfold rangeD
    induction (List.range n) with
    | nil => rfl
    | cons a r ih => simp [lfs,lf,ih]
  simp [tagL,rts,this]
theorem den_listrange1 {ta : TA} {xa : Ex} (da : DenA T W E ta [xa]) :
    Den T W E (tCB (fun xs H Q => ∃ (p : Addr) (lo hi : Int),xs = [.ref p] ∧ H p = some (.rng lo hi) ∧ (-(2 ^ 62) ≤ lo ∧ lo < 2 ^ 62 ∧ -(2 ^ 62) ≤ hi ∧ hi < 2 ^ 62) ∧ (hi - lo).toNat ≤ sizeLine ∧
      ∀ l,H l = none → Q (.ref l) (L2.upd H l (.lst ((List.range (hi - lo).toNat).map fun k : Nat => V.int (lo + (k : Int))))))
      (tCons (tCB (fun xs H Q => ∃ j : Int,xs = [.int j] ∧ ∀ r,H r = none → Q (.ref r) (L2.upd H r (.rng 0 j))) ta) tNil)) (.blt .listrange1 [xa]) := fun Γ G ρ σ H r Q he h hp => by
  conv at he => lhs; whnf
  refine da.step (k:=fun ds ts => match bltD .listrange1 ds with | some d => some (.ok d (tagL d ts)) | none => none) he h hp fun ds ts vs H1 hk s ok h1 hp1 => ?_
  split at hk
  · rename_i d hd
    cases hk
    obtain ⟨x,rfl,hd⟩ := on1_inv hd
    obtain ⟨j,rfl,hd⟩ := onI_inv hd
    obtain ⟨hz,hd⟩ := iteN hd
    · cases hd
      obtain ⟨t,v,rfl,rfl,o⟩ := rs1 (ds:=[]) ok
      cases (show v = .int _ from o.any)
      obtain ⟨b1,b2⟩ := small_of hz.1
      refine ⟨j,rfl,fun p hp' => ⟨p,0,j,rfl,upd_same,⟨by decide,by decide,b1,b2⟩,Nat.le_of_lt (small1000 (by omega)),fun l hl => ?_⟩⟩
      have sp : Same H1 (L2.upd H1 p (.rng 0 j)) := Same.mk1 hp'
      have rr := reps_range (T:=T) (H:=L2.upd H1 p (.rng 0 j)) (C:=TC Γ H .new) 0 (j - 0).toNat
      rw [show (j - 0).toNat = j.toNat by lia] at rr ⊢
      obtain ⟨s4,ok4⟩ := mkList (t:=.new) h (s.trans sp) hl (fun c z => nomatch z) rr
      refine hp _ _ ((s.trans sp).trans s4) ?_
      have e : tagL (.lst (rangeD 0 j.toNat)) [t] = rts (rangeD 0 j.toNat) .new := by rw [rangeD_new]; unfold rts; split <;> rfl
      rw [e]; exact ok4
  · cases hk
theorem den_listrange2 {ta : TA} {xa xb : Ex} (da : DenA T W E ta [xa,xb]) :
    Den T W E (tCB (fun xs H Q => ∃ (p : Addr) (lo hi : Int),xs = [.ref p] ∧ H p = some (.rng lo hi) ∧ (-(2 ^ 62) ≤ lo ∧ lo < 2 ^ 62 ∧ -(2 ^ 62) ≤ hi ∧ hi < 2 ^ 62) ∧ (hi - lo).toNat ≤ sizeLine ∧
      ∀ l,H l = none → Q (.ref l) (L2.upd H l (.lst ((List.range (hi - lo).toNat).map fun k : Nat => V.int (lo + (k : Int))))))
      (tCons (tCB (fun xs H Q => ∃ i j : Int,xs = [.int i,.int j] ∧ ∀ r,H r = none → Q (.ref r) (L2.upd H r (.rng i j))) ta) tNil)) (.blt .listrange2 [xa,xb]) := fun Γ G ρ σ H r Q he h hp => by
  conv at he => lhs; whnf
  refine da.step (k:=fun ds ts => match bltD .listrange2 ds with | some d => some (.ok d (tagL d ts)) | none => none) he h hp fun ds ts vs H1 hk s ok h1 hp1 => ?_
  split at hk
  · rename_i d hd
    cases hk
    obtain ⟨x,y,rfl,hd⟩ := on2_inv hd
    obtain ⟨i,j,rfl,rfl,hd⟩ := onZ_inv hd
    obtain ⟨hz,hd⟩ := iteN hd
    · cases hd
      obtain ⟨t,v,t',v',rfl,rfl,o,o'⟩ := rs2 ok
      cases (show v = .int _ from o.any)
      cases (show v' = .int _ from o'.any)
      obtain ⟨b1,b2⟩ := small_of hz.1
      obtain ⟨b3,b4⟩ := small_of hz.2.1
      refine ⟨i,j,rfl,fun p hp' => ⟨p,i,j,rfl,upd_same,⟨b1,b2,b3,b4⟩,Nat.le_of_lt (small1000 (by omega)),fun l hl => ?_⟩⟩
      have sp : Same H1 (L2.upd H1 p (.rng i j)) := Same.mk1 hp'
      obtain ⟨s4,ok4⟩ := mkList (t:=.new) h (s.trans sp) hl (fun c z => nomatch z) (reps_range (T:=T) (H:=L2.upd H1 p (.rng i j)) (C:=TC Γ H .new) i (j - i).toNat)
      refine hp _ _ ((s.trans sp).trans s4) ?_
      have e : tagL (.lst (rangeD i (j - i).toNat)) [t,t'] = rts (rangeD i (j - i).toNat) .new := by rw [rangeD_new]; unfold rts; split <;> rfl
      rw [e]; exact ok4
  · cases hk
theorem call_lenS : CallR X (.builtin "len") (fun xs H Q => ∃ (p : Addr) (S : Int → Bool) (n : Nat),xs = [.ref p] ∧ H p = some (.set S n) ∧ Q (.int n) H) := by
  intro pins s σ H xs us Q I r h
  obtain ⟨p,S,n,rfl,hp,q⟩ := h
  obtain ⟨u,rfl,rx⟩ := vals1 r
  cases rx
  obtain ⟨o,es,ep,t,h1,h2,h3,_,_,h6,h7,h8⟩ := (show s.heap.SetOf (intKind X.prog X.w) p S n from I.hok p _ hp)
  subst h8
  refine PySem.call_len_set h1 h2 h3 h7 (by have z : scanBound ≤ 1099511627776 := (by decide); lia) ?_
  exact ⟨.int es.size,H,I.tok _,⟨_,rfl⟩,q⟩
theorem firstMet_dedup (ns : List Int) : PyProof.Rows.firstMet (fun i => ns.getD i 0) ns.length = dedup ns := by
  unfold PyProof.Rows.firstMet dedup
  rw [MT.map_range_getD 0 ns]
  rfl
theorem den_lset {ta : TA} {xa : Ex} (hK : X.K = T.K) (da : DenA T W E ta [xa]) :
    Den T W E (tCB (fun xs H Q => ∃ (p : Addr) (S : Int → Bool) (n : Nat),xs = [.ref p] ∧ H p = some (.set S n) ∧ Q (.int n) H)
      (tCons (tCB (fun xs H Q => ∃ (p : Addr) (ns : List Int),xs = [.ref p] ∧ SqL X.K H p (ns.map V.int) ∧ ns.length < 1000 ∧
        ∀ l S,H l = none → Q (.ref l) (L2.upd H l (.set S (PyProof.Rows.firstMet (fun i => ns.getD i 0) ns.length).length))) ta) tNil)) (.blt .lset [xa]) := fun Γ G ρ σ H r Q he h hp => by
  conv at he => lhs; whnf
  refine da.step (k:=fun ds ts => match bltD .lset ds with | some d => some (.ok d (tagL d ts)) | none => none) he h hp fun ds ts vs H1 hk s ok h1 hp1 => ?_
  split at hk
  · rename_i d hd
    cases hk
    obtain ⟨x,rfl,hd1⟩ := on1_inv hd
    obtain ⟨es,rfl,hd2⟩ := onL_inv hd1
    obtain ⟨n,hd3,rfl⟩ := Option.map_eq_some_iff.mp hd2
    clear hd hd1 hd2
    have hd := hd3
    unfold distinct at hd
    split at hd
    · rename_i hl
      split at hd
      · rename_i ns hn
        cases hd
        obtain ⟨t,v,rfl,rfl,o⟩ := rs1 (ds:=[]) ok
        obtain ⟨a,xs,rfl,ha,rs⟩ := o.list
        have e := mapO_int hn
        subst e
        cases reps_ints_inv rs
        refine ⟨a,ns,rfl,SqL.of ha,by simpa using hl,fun l S hl' => ⟨l,S,_,rfl,upd_same,?_⟩⟩
        have sp : Same H1 (L2.upd H1 l (.set S (PyProof.Rows.firstMet (fun i => ns.getD i 0) ns.length).length)) := Same.mk1 hl'
        rw [firstMet_dedup] at sp ⊢
        exact hp _ _ (s.trans sp) rfl
      · cases hd
    · cases hd
  · cases hk
end
end Ev
set_option Elab.async false
set_option maxRecDepth 100000
set_option maxHeartbeats 1000000
namespace Ev
open PySem L2
def tE (T : Tx) (W : Wd) (E : XK) (x : Ex) : TE := fun σ H Q => ∃ (Γ : Ctx) (G : List Gh) (ρ : Env) (r : Res),evE W ρ x = some r ∧ EnvOk T Γ G ρ σ H ∧ Post T E Γ H Q r
def tT (T : Tx) (W : Wd) (E : XK) (x : Ex) : TT := fun σ H Q => ∃ (Γ : Ctx) (G : List Gh) (ρ : Env) (r : Res),evE W ρ x = some r ∧ isB r ∧ EnvOk T Γ G ρ σ H ∧ PostT T E H Q r
section
variable {T : Tx} {W : Wd} {X : Cx} {E : XK} {Γ : Ctx} {G : List Gh} {ρ ρ1 : Env} {σ σ1 : St} {H H1 H2 H' : Hp} {C C' : Addr → Prop} {Q : VK} {r : Res} {d x y : D} {t u : Tag} {v w vx vy : V} {b : Bool} {ds : List D} {ts : List Tag} {vs xs : List V}
theorem Snd.pe {e : Expr} {x : Ex} (h : Snd T W X E e x) : PE X e (tE T W E x) := by
  obtain ⟨t,p,q⟩ := h
  exact PE.imp p fun σ H Q ⟨Γ,G,ρ,r,h1,h2,h3⟩ => q Γ G ρ σ H r Q h1 h2 h3
theorem den_tE {x : Ex} : Den T W E (tE T W E x) x := fun Γ G ρ σ H r Q h1 h2 h3 => ⟨Γ,G,ρ,r,h1,h2,h3⟩
theorem snd_of {e : Expr} {x : Ex} (h : PE X e (tE T W E x)) : Snd T W X E e x := ⟨_,h,den_tE⟩
theorem denT_tT {x : Ex} : DenT T W E (tT T W E x) x := fun Γ G ρ σ H r Q h1 h2 h3 h4 => ⟨Γ,G,ρ,r,h1,h2,h3,h4⟩
theorem SndT.pt {e : Expr} {x : Ex} (h : SndT T W X E e x) : PT X e (tT T W E x) := by
  obtain ⟨t,p,q⟩ := h
  exact fun pins s σ H Q I ⟨Γ,G,ρ,r,h1,h2,h3,h4⟩ => p pins s σ H Q I (q Γ G ρ σ H r Q h1 h2 h3 h4)
theorem sndT_of {e : Expr} {x : Ex} (h : PT X e (tT T W E x)) : SndT T W X E e x := ⟨_,h,denT_tT⟩
def FlowOk (T : Tx) (H : Hp) (P : Addr → Prop) : List Bool → List D → List V → Prop
  | [],_,_ => True
  | f :: r,ds,vs => match ds with
    | [] => True
    | d :: ds => match vs with
      | [] => True
      | v :: vs => (f = true → Rep T H P d v) ∧ FlowOk T H P r ds vs
def spD (T : Tx) (fn : Fn) : Sp := fun vs H Q E => ∃ (ds : List D) (r : R) (P : Addr → Prop),Reps T H (fun _ => True) ds vs ∧ FlowOk T H P fn.fl ds vs ∧ fn.m ds = some r ∧
  (match r with
    | .ok d => ∀ v H',Same H H' → Rep T H' (fun b => H b = none ∨ P b) d v → Q v H'
    | .exc c => ∀ H',Same H H' → E (T.cv c) none H')
theorem flow_any : ∀ {fl : List Bool} {ds : List D} {ts : List Tag} {vs : List V},RsOk T Γ H H1 ds ts vs → FlowOk T H1 (fun _ => True) fl ds vs
  | [],_,_,_,_ => trivial
  | f :: fl,[],_,_,_ => trivial
  | f :: fl,d :: ds,_,_,⟨t,ts',v,vs',e1,e2,o,r⟩ => by
    subst e1; subst e2
    exact ⟨fun _ => o.any,flow_any r⟩
theorem FlowOk.mono {P P' : Addr → Prop} (hP : ∀ b,P b → P' b) : ∀ {fl : List Bool} {ds : List D} {vs : List V},FlowOk T H P fl ds vs → FlowOk T H P' fl ds vs
  | [],_,_,_ => trivial
  | f :: fl,[],_,_ => trivial
  | f :: fl,d :: ds,[],_ => trivial
  | f :: fl,d :: ds,v :: vs,h => ⟨fun z => (h.1 z).imp hP,FlowOk.mono hP h.2⟩
theorem flow_tag (h : EnvOk T Γ G ρ σ H) : ∀ {fl : List Bool} {ds : List D} {ts : List Tag} {vs : List V} {t : Tag},flowTag fl ts = some t → RsOk T Γ H H1 ds ts vs → FlowOk T H1 (TC Γ H t) fl ds vs ∧ ∀ c,t ≠ .own c
  | [],_,_,_,t,e,_ => by cases e; exact ⟨trivial,fun c z => nomatch z⟩
  | f :: fl,[],_,_,t,e,⟨e1,e2⟩ => by subst e1; subst e2; cases e; exact ⟨trivial,fun c z => nomatch z⟩
  | true :: fl,d :: ds,_,_,t,e,⟨t',ts',v,vs',e1,e2,o,r⟩ => by
    subst e1; subst e2
    have e1 : (if noFlow t' = true then none else (flowTag fl ts').map t'.join) = some t := e
    by_cases hn : noFlow t' = true
    · rw [if_pos hn] at e1; cases e1
    · rw [if_neg hn,Option.map_eq_some_iff] at e1
      obtain ⟨u,e2,rfl⟩ := e1
      obtain ⟨q,no⟩ := flow_tag h e2 r
      have no' : ∀ c,t' ≠ .own c := fun c z => hn (by rw [z]; rfl)
      refine ⟨⟨fun _ => (o.rep no').imp fun b z => TC.join_l h z,q.mono fun b z => TC.join_r h z⟩,fun c z => ?_⟩
      cases t' with
      | own c' => exact no' c' rfl
      | new => cases u with
        | own c'' => exact no c'' rfl
        | new => cases z
        | cl _ => cases z
      | cl c' => cases u with
        | own c'' => exact no c'' rfl
        | new => cases z
        | cl _ => cases z
  | false :: fl,d :: ds,_,_,t,e,⟨t',ts',v,vs',e1,e2,o,r⟩ => by
    subst e1; subst e2
    obtain ⟨q,no⟩ := flow_tag (fl:=fl) h (show flowTag fl ts' = some t from e) r
    exact ⟨⟨(fun z => nomatch z),q⟩,no⟩
theorem den_call {f : Str} {fn : Fn} (hf : W.F f = some fn) {ta : TA} {xs : List Ex} (da : DenA T W E ta xs) : Den T W E (tCall (spD T fn) [] E ta) (.call f xs) := fun Γ G ρ σ H r Q he h hp => by
  (conv at he => lhs; whnf); rw [hf] at he
  refine da.step (k:=fun ds ts => callR fn ds ts) he h hp fun ds ts vs H1 hk s ok h1 hp1 => ?_
  show spD T fn (vs ++ []) H1 Q E
  rw [List.append_nil]
  unfold callR at hk
  split at hk
  · cases hk
  · rename_i c hm
    cases hk
    exact ⟨ds,.exc c,fun _ => True,ok.any,flow_any ok,hm,hp1⟩
  · rename_i d hm
    split at hk
    · rename_i t ht
      cases hk
      obtain ⟨q,no⟩ := flow_tag h ht ok
      refine ⟨ds,.ok d,TC Γ H t,ok.any,q,hm,fun v H' s' r' => hp v H' (s.trans s') (ROk.rt (ROk.of (r'.imp fun b z => ?_) no))⟩
      rcases z with z | z
      · exact TC.fresh h (s.free z)
      · exact z
    · cases hk
def CallIn (T : Tx) (P : Program) (w : World) (mg : Str → Option Value) (base : Heap) (k : Nat) (x : Str) (fn : Fn) : Prop := ∀ (X : Cx),X.prog = P → X.w = w → X.K = T.K → X.mg = mg → X.base = base → Room k X.A → ∀ E,Passes (CX1 P w) X E → Gl X x → (x == ("__debug__" : Str)) = false →
  ∀ (e : Expr) (es : List Expr) (t : TA) (p pos : Pos),PA X (e :: es) t → starEach (e :: es) X.env = (false,eval e X.env) :: starEach es X.env → (backTo pos (starEach es X.env)).any (·.1) = false → PE X (.Call (.Name x p) (e :: es) [] pos) (tCall (spD T fn) [] E t)
def tagCl : Tag → Cl
  | .new => .fl
  | .cl c => c
  | .own c => c
theorem entOf_eq : entOf d t = ⟨d,false,tagCl t⟩ := by cases t <;> rfl
theorem TC.weak (h : EnvOk T Γ G ρ σ H) {b : Addr} (n : TC Γ H t b) : TCc Γ (tagCl t) b := by
  cases t with
  | new => exact .inr (h.fresh n)
  | cl c => exact n
  | own c => exact n
theorem bindT_inv {tg : Tg} {ρ1 : Env} (h : bindT ρ t tg d = some ρ1) : tagCl t ≠ .dp ∧ bindT0 ρ t tg d = some ρ1 := by
  cases t with
  | new => exact ⟨(fun z => nomatch z),h⟩
  | cl c => cases c with
    | dp => cases h
    | _ => exact ⟨(fun z => nomatch z),h⟩
  | own c => cases c with
    | dp => cases h
    | _ => exact ⟨(fun z => nomatch z),h⟩
theorem EnvOk.setv {i : Nat} {c : Cl} (h : EnvOk T Γ G ρ σ H) (r : Rep T H (Cond Γ c) d v) : EnvOk T Γ G (ρ.set i (some ⟨d,false,c⟩)) (σ.set i (some v)) H := by
  refine ⟨h.same,h.own,h.deep,fun j e q => ?_,fun j k e e' ne q q' o o' => ?_,h.gh,by simp [h.len]⟩
  · by_cases hj : i = j
    · subst hj
      have hi : i < ρ.length := by
        have := (List.getElem?_eq_some_iff.mp q).1
        simpa using this
      rw [List.getElem?_set_self hi] at q
      cases q
      exact ⟨v,by rw [List.getElem?_set_self (by rw [h.len]; exact hi)],⟨fun z => (by cases z),fun z => (by cases z),fun _ => r⟩⟩
    · rw [List.getElem?_set_ne hj] at q ⊢
      exact h.ent j e q
  · have nj : i ≠ j := by
      intro z; subst z
      have hi : i < ρ.length := by
        have := (List.getElem?_eq_some_iff.mp q).1
        simpa using this
      rw [List.getElem?_set_self hi] at q
      cases q; cases o
    have nk : i ≠ k := by
      intro z; subst z
      have hi : i < ρ.length := by
        have := (List.getElem?_eq_some_iff.mp q').1
        simpa using this
      rw [List.getElem?_set_self hi] at q'
      cases q'; cases o'
    rw [List.getElem?_set_ne nj] at q ⊢
    rw [List.getElem?_set_ne nk] at q' ⊢
    exact h.inj j k e e' ne q q' o o'
def tgSlots : Tg → List Nat
  | .name i => [i]
  | .tup is => is
def TgOk (T : Tx) (g : TG) (tgx : Tg) : Prop := ∀ {Γ : Ctx} {G : List Gh} {ρ : Env} {σ : St} {H : Hp} {t : Tag} {d : D} {v : V} {ρ1 : Env} {Q : St → Hp → Prop},EnvOk T Γ G ρ σ H → Rep T H (TCc Γ (tagCl t)) d v → bindT ρ t tgx d = some ρ1 →
  (∀ σ1,EnvOk T Γ G ρ1 σ1 H → (∀ j,j ∉ tgSlots tgx → σ1[j]? = σ[j]?) → σ1.length = σ.length → Q σ1 H) → g v σ H Q
theorem tgOk_name {i : Nat} : TgOk T (gName i) (.name i) := fun {Γ G ρ σ H t d v ρ1 Q} h r e q => by
  obtain ⟨hd,e1⟩ := bindT_inv e
  cases e1
  rw [entOf_eq] at q
  exact q _ (h.setv (r.imp fun b z => z.cond hd)) (fun j hj => List.getElem?_set_ne (fun z => hj (by simp [tgSlots,z]))) (by simp)
theorem tgOk_tup {K : PySem.W.Frag} (hK : K = T.K) {i j : Nat} : TgOk T (gTup K 2 (gCons (gName i) (gCons (gName j) gNil))) (.tup [i,j]) := fun {Γ G ρ σ H t d v ρ1 Q} h r e q => by
  obtain ⟨hd,e1⟩ := bindT_inv e
  clear e
  replace r := r.imp fun b z => z.cond hd
  cases d with
  | tup ds =>
    rcases ds with _ | ⟨a,_ | ⟨b,_ | ⟨c,rr⟩⟩⟩
    · cases e1
    · cases e1
    · cases e1
      obtain ⟨p,xs,rfl,hp,w,ws,rfl,rw1,w2,ws2,rfl,rw2,rfl⟩ := r
      refine ⟨p,_,rfl,by rw [hK]; exact hp,rfl,w,_,rfl,w2,_,rfl,rfl,?_⟩
      rw [entOf_eq,entOf_eq] at q
      exact q _ ((h.setv rw1).setv rw2) (fun k hk => by
        rw [List.getElem?_set_ne (fun z => hk (by simp [tgSlots,z])),List.getElem?_set_ne (fun z => hk (by simp [tgSlots,z]))]) (by simp)
    · cases e1
  | _ => cases e1
theorem EnvOk.off (h : EnvOk T Γ G ρ σ H) (ho : ∀ (j : Nat) (e : Ent),ρ[j]? = some (some e) → σ1[j]? = σ[j]?) (hl : σ1.length = σ.length) : EnvOk T Γ G ρ σ1 H :=
  ⟨h.same,h.own,h.deep,fun i e q => by rw [ho i e q]; exact h.ent i e q,fun i j e e' ne q q' o o' => by rw [ho i e q,ho j e' q']; exact h.inj i j e e' ne q q' o o',h.gh,hl.trans h.len⟩
theorem EnvOk.stIn {ix : List (Option Nat)} (h : EnvOk T Γ G ρ σ H) (inj : ∀ (i j k : Nat),ix[i]? = some (some k) → ix[j]? = some (some k) → i = j) : EnvOk T Γ G (Ev.stIn ix ρ) (L2.stIn ix σ) H := by
  have get : ∀ (j : Nat) (e : Ent),(Ev.stIn ix ρ)[j]? = some (some e) → ∃ i,ix[j]? = some (some i) ∧ ρ[i]? = some (some e) := fun j e q => by
    unfold Ev.stIn at q
    rw [List.getElem?_map,Option.map_eq_some_iff] at q
    obtain ⟨o,q1,q2⟩ := q
    cases o with
    | none => cases q2
    | some i =>
      refine ⟨i,q1,?_⟩
      dsimp only at q2
      cases z : ρ[i]? with
      | none => rw [z] at q2; cases q2
      | some e' => rw [z] at q2; exact congrArg some q2
  have put : ∀ (j i : Nat),ix[j]? = some (some i) → (L2.stIn ix σ)[j]? = some ((σ[i]?).getD none) := fun j i q => by
    unfold L2.stIn
    rw [List.getElem?_map,q]; rfl
  refine ⟨h.same,h.own,h.deep,fun j e q => ?_,fun j k e e' ne q q' o o' => ?_,h.gh,by simp [Ev.stIn,L2.stIn]⟩
  · obtain ⟨i,h1,h2⟩ := get j e q
    obtain ⟨v,h3,h4⟩ := h.ent i e h2
    exact ⟨v,by rw [put j i h1,h3]; rfl,h4⟩
  · obtain ⟨i,h1,h2⟩ := get j e q
    obtain ⟨i',h1',h2'⟩ := get k e' q'
    have ni : i ≠ i' := fun z => by subst z; exact ne (inj j k i h1 h1')
    obtain ⟨v,h3,_⟩ := h.ent i e h2
    obtain ⟨v',h3',_⟩ := h.ent i' e' h2'
    intro n n'
    have := h.inj i i' e e' ni h2 h2' o o' n n'
    rw [put j i h1,put k i' h1',h3,h3']
    rw [h3,h3'] at this
    exact this
theorem mkList' {p : Addr} (h : EnvOk T Γ G ρ σ H) (s : Same H H1) (n : H1 p = none) (no : ∀ c,t ≠ .own c) (r : Reps T H1 (TC Γ H t) ds xs) : Same H1 (L2.upd H1 p (.lst xs)) ∧ ROk T Γ H (L2.upd H1 p (.lst xs)) (.lst ds) t (.ref p) := by
  have s1 : Same H1 (L2.upd H1 p (.lst xs)) := Same.mk1 n
  exact ⟨s1,ROk.of ⟨p,xs,rfl,TC.fresh h (s.free n),upd_same,r.same s1⟩ no⟩
end
end Ev
set_option Elab.async false
set_option maxRecDepth 100000
set_option maxHeartbeats 1000000
namespace Ev
open PySem L2
def iListZ (K : PySem.W.Frag) (tl : TE) : TI := fun σ H R => tl σ H fun x H1 => ∃ a xs,x = .ref a ∧ SqL K H1 a xs ∧ (xs.length ≤ sizeLine → R (Itl K a) H1)
theorem pi_listZ {X : Cx} {tg l : Expr} {tl : TE} (hl : PE X l tl) : PI X tg l (iListZ X.K tl) := by
  intro pins s σ H R I h
  refine thn (hl pins s σ H _ I h) fun v s1 ⟨x,H1,I1,r1,q1⟩ => ?_
  obtain ⟨a,xs,e,hq,q⟩ := q1
  subst e
  cases r1
  obtain ⟨its,rv,p,hz⟩ := I1.list hq
  refine wpAny_pyIter_list p.isList ?_
  refine ⟨s1.heap.objs.size,[s1.heap.objs.size],_,_,H1,rfl,I1.kept (t':=s1.toks) fun b o e => Heap.get?_push_of_some _ e,turn_list a _,⟨_,Heap.get?_push_size _ rfl,rfl,rfl⟩,fun b hb => ?_,q hz⟩
  have e : b = s1.heap.objs.size := by simpa using hb
  subst e
  exact I1.fpOk (Nat.le_refl _) (I1.hok.fresh (Nat.le_refl _))
section
variable {T : Tx} {W : Wd} {X : Cx} {E : XK} {Γ : Ctx} {G : List Gh} {ρ ρ1 : Env} {σ σ1 : St} {H H1 H2 H' : Hp} {C C' : Addr → Prop} {Q : VK} {r : Res} {d x y : D} {t u : Tag} {v w vx vy : V} {b : Bool} {ds : List D} {ts : List Tag} {vs xs : List V}
def DenTst (T : Tx) (W : Wd) (tt : TT) (tst : Option Ex) : Prop := ∀ (Γ : Ctx) (G : List Gh) (ρ : Env) (σ : St) (H : Hp) (b : Bool) (t : Tag) (Q : Bool → Hp → Prop),runT W ρ tst = some (.ok (.bl b) t) → EnvOk T Γ G ρ σ H → (∀ H',Same H H' → Q b H') → tt σ H Q
theorem denTst_none : DenTst T W tTrue none := fun Γ G ρ σ H b t Q h1 h2 h3 => by
  simp only [runT] at h1
  cases h1
  exact h3 H (Same.refl _)
theorem denTst_some {x : Ex} : DenTst T W (tT T W EN x) (some x) := fun Γ G ρ σ H b t Q h1 h2 h3 => ⟨Γ,G,ρ,_,h1,⟨b,rfl⟩,h2,fun b' H' e s => by cases e; exact h3 H' s⟩
theorem keep_ok {t' : Tag} (h : keep d t = some t') (o : ROk T Γ H H' d t v) : Rep T H' (TC Γ H t') d v ∧ ∀ c,t' ≠ .own c := by
  unfold keep at h
  have o' := o.rt
  split at h
  · cases h
  · cases h
  · rename_i no _
    cases h
    exact ⟨o'.rep fun c z => no c z,fun c z => no c z⟩
theorem keep_dp {t' : Tag} (h : keep d t = some t') : tagCl t' ≠ .dp := by
  unfold keep at h
  split at h
  · cases h
  · cases h
  · rename_i no no'
    cases h
    generalize Ev.rt d t = z at no no'
    cases z with
    | new => exact fun z => nomatch z
    | cl c => exact fun z => no' (by rw [show c = .dp from z])
    | own c => exact absurd rfl (no c)
theorem join_no (h1 : ∀ c,t ≠ .own c) (h2 : ∀ c,u ≠ .own c) : ∀ c,t.join u ≠ .own c := by
  intro c
  cases t with
  | own c => exact absurd rfl (h1 c)
  | new => cases u with
    | own c => exact absurd rfl (h2 c)
    | new => exact fun z => nomatch z
    | cl c => exact fun z => nomatch z
  | cl c => cases u with
    | own c => exact absurd rfl (h2 c)
    | new => exact fun z => nomatch z
    | cl c => exact fun z => nomatch z
theorem compGo_no {bd : D → Option Env} {tst el : Env → Option Res} : ∀ {ds : List D} {out : List D} {u : Tag},compGo bd tst el ds = some (out,u) → ∀ c,u ≠ .own c
  | [],out,u,h => by cases h; exact fun c z => nomatch z
  | d :: r,out,u,h => by
    simp only [compGo] at h
    split at h
    · cases h
    · split at h
      · split at h
        · rename_i x t xs u' h1 h2
          split at h
          · rename_i t' hk
            cases h
            refine join_no (fun c z => ?_) (compGo_no h2)
            subst z
            unfold keep at hk
            split at hk
            · cases hk
            · cases hk
            · rename_i no _
              exact no _ (Option.some.inj hk)
          · cases h
        · cases h
      · exact compGo_no h
      · cases h
theorem EnvOk.disownAll (h : EnvOk T Γ G ρ σ H) : EnvOk T { Γ with O := fun _ => False,S := fun _ => False } G (disownAll ρ) σ H := by
  have wk : ∀ {c : Cl} {b : Addr},Cond Γ c b → Cond { Γ with O := fun _ => False,S := fun _ => False } c b := fun z => ⟨id,z.2⟩
  have get : ∀ (j : Nat) (e : Ent),(Ev.disownAll ρ)[j]? = some (some e) → ∃ e',ρ[j]? = some (some e') ∧ e'.c ≠ .dp ∧ e = ⟨e'.d,false,e'.c⟩ := fun j e q => by
    unfold Ev.disownAll at q
    rw [List.getElem?_map,Option.map_eq_some_iff] at q
    obtain ⟨o,q1,q2⟩ := q
    cases o with
    | none => cases q2
    | some e' =>
      unfold disown at q2
      dsimp only at q2
      cases hc : e'.c with
      | dp => rw [hc] at q2; cases q2
      | fl => rw [hc] at q2; exact ⟨e',q1,by rw [hc]; exact (fun z => nomatch z),by rw [hc]; exact (Option.some.inj q2).symm⟩
      | old => rw [hc] at q2; exact ⟨e',q1,by rw [hc]; exact (fun z => nomatch z),by rw [hc]; exact (Option.some.inj q2).symm⟩
  refine ⟨h.same,fun b z => z.elim,fun b z => z.elim,fun j e q => ?_,fun j k e e' ne q q' o o' => ?_,fun g z => (by have q := h.gh g z; cases g with | val c d v => exact q.imp fun b z => wk z | «at» a' xs' => exact ⟨q.1,id⟩),by simp [Ev.disownAll,h.len]⟩
  · obtain ⟨e',q',hc,rfl⟩ := get j e q
    obtain ⟨v,h1,h2⟩ := h.ent j e' q'
    refine ⟨v,h1,fun z => (by cases z),fun z => (by cases z),fun _ => ?_⟩
    cases ho : e'.own with
    | false => exact (h2.2.2 ho).imp fun b z => wk z
    | true =>
      obtain ⟨a,xs,ds,k1,k2,k3,_,k4,k5⟩ := h2.1 ho hc
      subst k2
      show Rep T H _ e'.d (.ref a)
      rw [k1]
      exact ⟨a,xs,rfl,⟨id,fun _ => .inl (h.own a k3).1⟩,k4,k5.imp fun b z => wk z⟩
  · obtain ⟨e1,_,_,rfl⟩ := get j e q
    cases o
theorem comp_coreG {ix : List (Option Nat)} {tgx : Tg} {g : TG} {tt : TT} {tst : Option Ex} {xel : Ex} {out : List D} {tg : Tag} (h : EnvOk T Γ G ρ σ H) (h1 : EnvOk T Γ G ρ σ H1) (s : Same H H1) (inj : ∀ (i j k : Nat),ix[i]? = some (some k) → ix[j]? = some (some k) → i = j)
    (hoff : ∀ j ∈ tgSlots tgx,∀ i,ix[j]? ≠ some (some i)) (ht : TgOk T g tgx) (dtt : DenTst T W tt tst)
    (hgo : compGo (bindT (Ev.stIn ix ρ) t tgx) (fun ρ' => runT W ρ' tst) (fun ρ' => evE W ρ' xel) ds = some (out,tg)) (hq : ∀ v H',Same H1 H' → ROk T Γ H H' (.lst out) tg v → Q v H') :
    ∃ Pv : Nat → List V → St → Hp → Prop,Pv 0 [] (L2.stIn ix σ) H1 ∧ (∀ i ys σ' H',Pv i ys σ' H' → Same H1 H' ∧ ys.length ≤ i) ∧
      (∀ i d x ys σ' H' H'',ds[i]? = some d → Pv i ys σ' H' → Same H' H'' → Rep T H'' (TCc Γ (tagCl t)) d x → g x σ' H'' fun σ3 H3 => tt σ3 H3 fun b H4 => if b = true then tE T W EN xel σ3 H4 fun y H5 => Pv (i + 1) (ys ++ [y]) σ3 H5 else Pv (i + 1) ys σ3 H4) ∧
      (∀ ys σ' H',Pv ds.length ys σ' H' → ∀ p,H' p = none → Q (.ref p) (L2.upd H' p (.lst ys))) := by
  have hin := h1.stIn inj
  have noent : ∀ (j : Nat) (e : Ent),(Ev.stIn ix ρ)[j]? = some (some e) → j ∉ tgSlots tgx := fun j e q hj => by
    unfold Ev.stIn at q
    rw [List.getElem?_map,Option.map_eq_some_iff] at q
    obtain ⟨o,q1,q2⟩ := q
    cases o with
    | none => cases q2
    | some i => exact hoff j hj i q1
  refine ⟨fun i ys σ' H' => Same H1 H' ∧ ys.length ≤ i ∧ EnvOk T Γ G (Ev.stIn ix ρ) σ' H' ∧ ∃ done rest u,compGo (bindT (Ev.stIn ix ρ) t tgx) (fun ρ' => runT W ρ' tst) (fun ρ' => evE W ρ' xel) (ds.drop i) = some (rest,u) ∧ out = done ++ rest ∧ Reps T H' (TC Γ H tg) done ys ∧ ∀ b,TC Γ H u b → TC Γ H tg b,
    ⟨Same.refl _,Nat.le_refl _,hin,[],out,tg,hgo,rfl,rfl,fun b z => z⟩,fun i ys σ' H' p => ⟨p.1,p.2.1⟩,?_,?_⟩
  · rintro i d x ys σ0 H0 H' hd ⟨s0,hl,ho0,done,rest,u,hc,he,hr0,hu⟩ sx rd
    have s1 := s0.trans sx
    have ho := ho0.mono sx
    have hr := hr0.same sx
    clear s0 ho0 hr0 sx
    have hdl : i < ds.length := (List.getElem?_eq_some_iff.mp hd).1
    have hdrop : ds.drop i = d :: ds.drop (i + 1) := by
      rw [List.drop_eq_getElem_cons hdl]
      congr 1
      rw [List.getElem?_eq_getElem hdl] at hd
      exact Option.some.inj hd
    rw [hdrop] at hc
    simp only [compGo] at hc
    split at hc
    · cases hc
    · rename_i ρ' hb
      refine ht ho rd hb fun σ3 h3 off hlen => ?_
      have back : ∀ {H'' : Hp},Same H' H'' → EnvOk T Γ G (Ev.stIn ix ρ) σ3 H'' := fun s'' => (ho.mono s'').off (fun j e q => off j (noent j e q)) hlen
      split at hc
      · rename_i tb htst
        refine dtt Γ G ρ' σ3 H' true _ _ htst h3 fun H4 s4 => ?_
        rw [if_pos rfl]
        split at hc
        · rename_i x' t' xs' u' hel hrec
          split at hc
          · rename_i t'' hk
            cases hc
            refine ⟨Γ,G,ρ',_,hel,h3.mono s4,fun y H5 s5 ok => ?_⟩
            obtain ⟨rep,no⟩ := keep_ok hk ok
            have sH4 : Same H H4 := s.trans (s1.trans s4)
            refine ⟨(s1.trans s4).trans s5,by simp; omega,back (s4.trans s5),done ++ [x'],xs',u',hrec,by rw [he]; simp,?_,fun b z => hu b (TC.join_r h z)⟩
            refine (hr.same (s4.trans s5)).append ⟨y,[],rfl,rep.imp fun b z => hu b (TC.join_l h (TC.start sH4 z)),rfl⟩
          · cases hc
        · cases hc
      · rename_i tb htst
        refine dtt Γ G ρ' σ3 H' false _ _ htst h3 fun H4 s4 => ?_
        rw [if_neg Bool.false_ne_true]
        exact ⟨s1.trans s4,by lia,back s4,done,rest,u,hc,he,hr.same s4,hu⟩
      · cases hc
  · rintro ys σ' H' ⟨s1,hl,ho,done,rest,u,hc,he,hr,hu⟩ p hp
    rw [List.drop_length] at hc
    cases hc
    rw [List.append_nil] at he
    subst he
    obtain ⟨s2,ok⟩ := mkList' h (s.trans s1) hp (compGo_no hgo) hr
    exact hq _ _ (s1.trans s2) ok
theorem comp_core {ix : List (Option Nat)} {tgx : Tg} {g : TG} {tt : TT} {tst : Option Ex} {xel : Ex} {out : List D} {tg : Tag} (h : EnvOk T Γ G ρ σ H) (h1 : EnvOk T Γ G ρ σ H1) (s : Same H H1) (inj : ∀ (i j k : Nat),ix[i]? = some (some k) → ix[j]? = some (some k) → i = j)
    (hoff : ∀ j ∈ tgSlots tgx,∀ i,ix[j]? ≠ some (some i)) (ht : TgOk T g tgx) (dtt : DenTst T W tt tst) (rs : Reps T H1 (TCc Γ (tagCl t)) ds xs)
    (hgo : compGo (bindT (Ev.stIn ix ρ) t tgx) (fun ρ' => runT W ρ' tst) (fun ρ' => evE W ρ' xel) ds = some (out,tg)) (hq : ∀ v H',Same H1 H' → ROk T Γ H H' (.lst out) tg v → Q v H') :
    ∃ Pv : Nat → List V → St → Hp → Prop,Pv 0 [] (L2.stIn ix σ) H1 ∧ (∀ i ys σ' H',Pv i ys σ' H' → Same H1 H' ∧ ys.length ≤ i) ∧
      (∀ i x ys σ' H',xs[i]? = some x → Pv i ys σ' H' → g x σ' H' fun σ3 H3 => tt σ3 H3 fun b H4 => if b = true then tE T W EN xel σ3 H4 fun y H5 => Pv (i + 1) (ys ++ [y]) σ3 H5 else Pv (i + 1) ys σ3 H4) ∧
      (∀ ys σ' H',Pv xs.length ys σ' H' → ∀ p,H' p = none → Q (.ref p) (L2.upd H' p (.lst ys))) := by
  obtain ⟨Pv,p0,p1,p2,p3⟩ := comp_coreG h h1 s inj hoff ht dtt hgo hq
  rw [← rs.length] at p3
  refine ⟨Pv,p0,p1,fun i x ys σ' H' hx hp => ?_,p3⟩
  obtain ⟨d,hd,rd⟩ := rs.get' hx
  exact p2 i d x ys σ' H' H' hd hp (Same.refl _) (rd.same (p1 i ys σ' H' hp).1)
theorem den_compL {ix : List (Option Nat)} {tgx : Tg} {g : TG} {tt : TT} {tst : Option Ex} {xel xsrc : Ex} {tsrc : TE} {K : PySem.W.Frag} (hK : K = T.K) (inj : ∀ (i j k : Nat),ix[i]? = some (some k) → ix[j]? = some (some k) → i = j) (hoff : ∀ j ∈ tgSlots tgx,∀ i,ix[j]? ≠ some (some i)) (ht : TgOk T g tgx)
    (dtt : DenTst T W tt tst) (ds : Den T W E tsrc xsrc) : Den T W E (tLc (iListZ K tsrc) ix g tt (tE T W EN xel)) (.compL ix tgx xsrc tst xel) := fun Γ G ρ σ H r Q he h hp => by
  rw [E_cL] at he
  refine ds.step he h hp fun x t v H1 hk s ok h1 hp1 => ?_
  split at hk
  · rename_i ds
    unfold compR at hk
    split at hk
    · rename_i out tg hgo
      cases hk
      obtain ⟨a,xs,rfl,ha,rs⟩ := ok.list
      have hgo' : compGo (bindT (Ev.stIn ix ρ) t.el tgx) (fun ρ' => runT W ρ' tst) (fun ρ' => evE W ρ' xel) ds = some (out,tg) := by
        rw [← hgo]
      obtain ⟨Pv,p0,p1,p2,p3⟩ := comp_core (Q:=Q) (t:=t.el) h h1 s inj hoff ht dtt (rs.imp fun b z => TC.weak h (by rw [TC.el]; exact z)) hgo' fun v H' s' ok' => hp v H' (s.trans s') ok'
      refine ⟨a,xs,rfl,SqL.of ha,fun hz => ?_⟩
      exact lc_list (K:=K) (a:=a) (xs:=xs) Pv hz p0 (fun i ys σ' H' _ p => ⟨SqL.of ((p1 i ys σ' H' p).1 _ _ ha),(p1 i ys σ' H' p).2⟩) p2 p3
    · cases hk
  · cases hk
theorem den_compR1 {ix : List (Option Nat)} {i : Nat} {tt : TT} {tst : Option Ex} {xel xh : Ex} {ta : TA} (inj : ∀ (i j k : Nat),ix[i]? = some (some k) → ix[j]? = some (some k) → i = j) (hoff : ∀ j,ix[i]? ≠ some (some j))
    (dtt : DenTst T W tt tst) (da : DenA T W E ta [xh]) : Den T W E (tLc (iRng1 ta) ix (gName i) tt (tE T W EN xel)) (.compR ix i (.int 0) xh tst xel) := fun Γ G ρ σ H r Q he h hp => by
  rw [E_cR] at he
  have he' : (match evEs W ρ [xh] with | some (.ok ds ts) => on1R (onR (fun a b => if smallI a ∧ smallI b ∧ b - a ≤ 1000 then compR (compGo (bindT (Ev.stIn ix ρ) .new (.name i)) (fun ρ' => runT W ρ' tst) (fun ρ' => evE W ρ' xel) (rangeD a (b - a).toNat)) else none) (.int 0)) ds | some (.exc c) => some (.exc c) | none => none) = some r := by
    rw [← he]
    rw [Es_c]
    cases evE W ρ xh with
    | none => rfl
    | some r1 => cases r1 with
      | exc c => rfl
      | ok d t => rfl
  refine da.step (k:=fun ds ts => on1R (onR (fun a b => if smallI a ∧ smallI b ∧ b - a ≤ 1000 then compR (compGo (bindT (Ev.stIn ix ρ) .new (.name i)) (fun ρ' => runT W ρ' tst) (fun ρ' => evE W ρ' xel) (rangeD a (b - a).toNat)) else none) (.int 0)) ds) he' h hp fun ds ts vs H1 hk s ok h1 hp1 => ?_
  · obtain ⟨x,rfl,hk1⟩ := on1R_inv hk
    obtain ⟨a0,b,h0,rfl,hk2⟩ := onG_inv hk1
    cases h0
    clear hk hk1
    have hk := hk2
    clear hk2
    split at hk
    · rename_i hz
      unfold compR at hk
      split at hk
      · rename_i out tg hgo
        cases hk
        obtain ⟨t,v,rfl,rfl,o⟩ := rs1 (ds:=[]) ok
        cases (show v = .int _ from o.any)
        obtain ⟨b1,b2⟩ := small_of hz.2.1
        rw [show (b - 0).toNat = b.toNat by lia] at hgo
        obtain ⟨Pv,p0,p1,p2,p3⟩ := comp_core (Q:=Q) (t:=.new) (tgx:=.name i) h h1 s inj (fun j hj k => by simp [tgSlots] at hj; subst hj; exact hoff k) tgOk_name dtt (reps_range (T:=T) (H:=H1) (C:=TCc Γ (tagCl .new)) 0 b.toNat) hgo fun v H' s' ok' => hp v H' (s.trans s') ok'
        refine ⟨b,rfl,b1,b2,lc_range (lo:=0) (n:=b.toNat) Pv (Nat.le_of_lt (small1000 (by omega))) p0 (fun i ys σ' H' _ p => (p1 i ys σ' H' p).2) (fun j ys σ' H' hj p => p2 j _ ys σ' H' (by rw [List.getElem?_map,List.getElem?_range hj]; rfl) p) (fun ys σ' H' p => p3 ys σ' H' (by simpa using p))⟩
      · cases hk
    · cases hk
theorem den_compR2 {ix : List (Option Nat)} {i : Nat} {tt : TT} {tst : Option Ex} {xel xl xh : Ex} {ta : TA} (inj : ∀ (i j k : Nat),ix[i]? = some (some k) → ix[j]? = some (some k) → i = j) (hoff : ∀ j,ix[i]? ≠ some (some j))
    (dtt : DenTst T W tt tst) (da : DenA T W E ta [xl,xh]) : Den T W E (tLc (iRng2 ta) ix (gName i) tt (tE T W EN xel)) (.compR ix i xl xh tst xel) := fun Γ G ρ σ H r Q he h hp => by
  rw [E_cR] at he
  have he' : (match evEs W ρ [xl,xh] with | some (.ok ds ts) => on2R (onR (fun a b => if smallI a ∧ smallI b ∧ b - a ≤ 1000 then compR (compGo (bindT (Ev.stIn ix ρ) .new (.name i)) (fun ρ' => runT W ρ' tst) (fun ρ' => evE W ρ' xel) (rangeD a (b - a).toNat)) else none)) ds | some (.exc c) => some (.exc c) | none => none) = some r := by
    rw [← he]
    rw [Es_c]
    cases evE W ρ xl with
    | none => rfl
    | some r1 => cases r1 with
      | exc c => rfl
      | ok d t =>
        dsimp only
        rw [Es_c]
        cases evE W ρ xh with
        | none => rfl
        | some r2 => cases r2 with
          | exc c => rfl
          | ok d' t' => rfl
  refine da.step (k:=fun ds ts => on2R (onR (fun a b => if smallI a ∧ smallI b ∧ b - a ≤ 1000 then compR (compGo (bindT (Ev.stIn ix ρ) .new (.name i)) (fun ρ' => runT W ρ' tst) (fun ρ' => evE W ρ' xel) (rangeD a (b - a).toNat)) else none)) ds) he' h hp fun ds ts vs H1 hk s ok h1 hp1 => ?_
  · obtain ⟨x,y,rfl,hk1⟩ := on2R_inv hk
    obtain ⟨a,b,rfl,rfl,hk2⟩ := onG_inv hk1
    clear hk hk1
    have hk := hk2
    clear hk2
    split at hk
    · rename_i hz
      unfold compR at hk
      split at hk
      · rename_i out tg hgo
        cases hk
        obtain ⟨t,v,t',v',rfl,rfl,o,o'⟩ := rs2 ok
        cases (show v = .int _ from o.any)
        cases (show v' = .int _ from o'.any)
        obtain ⟨b1,b2⟩ := small_of hz.1
        obtain ⟨b3,b4⟩ := small_of hz.2.1
        obtain ⟨Pv,p0,p1,p2,p3⟩ := comp_core (Q:=Q) (t:=.new) (tgx:=.name i) h h1 s inj (fun j hj k => by simp [tgSlots] at hj; subst hj; exact hoff k) tgOk_name dtt (reps_range (T:=T) (H:=H1) (C:=TCc Γ (tagCl .new)) a (b - a).toNat) hgo fun v H' s' ok' => hp v H' (s.trans s') ok'
        refine ⟨a,b,rfl,⟨b1,b2,b3,b4⟩,lc_range (lo:=a) (n:=(b - a).toNat) Pv (Nat.le_of_lt (small1000 (by omega))) p0 (fun i ys σ' H' _ p => (p1 i ys σ' H' p).2) (fun j ys σ' H' hj p => p2 j _ ys σ' H' (by rw [List.getElem?_map,List.getElem?_range hj]; rfl) p) (fun ys σ' H' p => p3 ys σ' H' (by simpa using p))⟩
      · cases hk
    · cases hk
end
end Ev
set_option Elab.async false
set_option maxRecDepth 100000
set_option maxHeartbeats 1000000
namespace Ev
open PySem L2 PySem.Spec PyProof.Rows
def bltNames : List Str := ["len","range","max","min","sorted","list","set","all","isinstance","int","bool","abs","tuple","zip","ValueError"]
def tyTab (t c : String) : Option Bool := if t = c then some true else if t = "bool" ∧ c = "int" then some true else if ["int","bool","list","tuple","NoneType"].contains t && ["int","bool","list","tuple"].contains c then some false else none
def ExcI (T : Tx) (W : Wd) (mg : Str → Option Value) : Prop := (∀ x ∈ exNames,x = "ValueError" ∨ ∃ C,mg x = some (.ref C)) ∧ ∀ c x b,W.sub c x = some b → ∃ D,T.cv c = .ref D ∧ ExC T.K D ∧ ((x = "ValueError" ∧ PySem.W.kitOne T.K (.ref D) (.type "ValueError") = some b) ∨ ∃ C,mg x = some (.ref C) ∧ PySem.W.kitOne T.K (.ref D) (.ref C) = some b)
structure XOk (T : Tx) (W : Wd) (cm : Bool) (k : Nat) (X : Cx) (N : List Str) (sc : List (Str × NameKind)) (E : XK) : Prop where
  hK : X.K = T.K
  hN : X.N = N
  tx : TxOk T
  vis : ∀ x,isVis sc x = true → Vis X.env.scope x
  gl : ∀ x,isGl sc x = true → Gl X x
  kinds : ∀ x,(kindIn sc x = some .cell ∨ kindIn sc x = some .free) → X.env.scope.names.lookup x = some .cell ∨ X.env.scope.names.lookup x = some .free
  calm : cm = true → X.calm = true
  room : cm = true → Room k X.A
  units : X.A.units + 30 < cLine
  call : ∀ f fn,W.F f = some fn → CallIn T X.prog X.w X.mg X.base k f fn
  blt : ∀ x ∈ bltNames,X.mg x = none
  glob : ∀ x i,W.glob x = some i → ∃ t,X.mg x = some (.int i t)
  pass : Passes (CX1 X.prog X.w) X E
  ty : ∀ t c b,tyTab t c = some b → PySem.W.kitOne T.K (.type t) (.type c) = some b
  exi : ExcI T W X.mg
structure Gd (T : Tx) (W : Wd) (X : Cx) (E : XK) (e : Expr) (x : Ex) : Prop where
  pe : PE X e (tE T W E x)
  pt : PT X e (tT T W E x)
  star : NoStar e
  mark : NoMark e
  plain : PlainIx e
  fold : ∀ (env : PySem.Env) (v : Value),foldedSetIterable e env v = pure v
section
variable {T : Tx} {W : Wd} {cm : Bool} {k : Nat} {X : Cx} {N : List Str} {sc : List (Str × NameKind)} {E : XK} {e a b c : Expr} {x y z : Ex}
theorem Gd.snd (h : Gd T W X E e x) : Snd T W X E e x := snd_of h.pe
theorem Gd.tst (h : Gd T W X E e x) : SndT T W X E e x := sndT_of h.pt
theorem slot_get : ∀ {N : List Str} {x : Str} {i : Nat},slot N x = some i → N[i]? = some x
  | [],x,i,h => by cases h
  | y :: r,x,i,h => by
    unfold slot at h
    split at h
    · rename_i e; cases h; rw [e]; rfl
    · rw [Option.map_eq_some_iff] at h
      obtain ⟨j,hj,rfl⟩ := h
      rw [List.getElem?_cons_succ]
      exact slot_get hj
theorem vis_ok {x' : Str} (h : isVis sc x' = true) : (x' == ("__debug__" : Str)) = false ∧ (x' == ("__classdict__" : Str)) = false := by
  unfold isVis okName at h
  simp only [Bool.and_eq_true,Bool.not_eq_true',decide_eq_false_iff_not] at h
  exact ⟨h.1.1,h.1.2.1⟩
theorem gl_ok {x' : Str} (h : isGl sc x' = true) : (x' == ("__debug__" : Str)) = false ∧ x' ≠ ("__name__" : Str) := by
  unfold isGl okName at h
  simp only [Bool.and_eq_true,Bool.not_eq_true',decide_eq_false_iff_not] at h
  exact ⟨h.1.1,h.1.2.2⟩
theorem gd_val (h : Snd T W X E e x) (he : ∀ whole,isTrue e X.env whole = (do let v ← whole; standAt e.pos; holding [v] (truthy v))) (h1 : NoStar e) (h2 : NoMark e) (h3 : PlainIx e) (h4 : ∀ (env : PySem.Env) (v : Value),foldedSetIterable e env v = pure v) : Gd T W X E e x := by
  obtain ⟨t,p,q⟩ := id h
  exact ⟨h.pe,SndT.pt ⟨_,pt_val p he,q.test⟩,h1,h2,h3,h4⟩
theorem gd_name (O : XOk T W cm k X N sc E) {x' : Str} {pos : Pos} (h : trName N sc x' = some x) : Gd T W X E (.Name x' pos) x := by
  refine gd_val ?_ (fun _ => rfl) (fun _ _ => rfl) (fun _ => rfl) (fun _ _ => rfl) (fun _ _ => rfl)
  unfold trName at h
  split at h
  · rename_i hv
    rw [Option.map_eq_some_iff] at h
    obtain ⟨i,hi,rfl⟩ := h
    obtain ⟨z1,z2⟩ := vis_ok hv
    exact snd_var (by rw [O.hN]; exact slot_get hi) (O.vis _ hv) z1 z2
  · split at h
    · rename_i hg
      cases h
      exact snd_glob (O.gl _ hg) (O.glob _) (gl_ok hg).1
    · cases h
theorem gd_const {cst : Const} {j : Nat} {pos : Pos} (h : trConst cst = some x) : Gd T W X E (.Constant cst j pos) x := by
  refine gd_val ?_ (fun _ => rfl) (fun _ _ => rfl) (fun _ => rfl) (fun _ _ => rfl) (fun _ _ => rfl)
  cases cst <;> simp only [trConst,reduceCtorEq,Option.some.injEq] at h <;> subst h
  · exact snd_non
  · exact snd_bl
  · exact snd_int
  · exact snd_str
theorem gd_un {op : UnaryOp} {pos : Pos} {ra : Option Ex} (h : trUn op ra = some x) (ih : ∀ y,ra = some y → Gd T W X E a y) : Gd T W X E (.UnaryOp op a pos) x := by
  cases op <;> simp only [trUn,reduceCtorEq,Option.map_eq_some_iff] at h
  · obtain ⟨y,hy,rfl⟩ := h
    exact ⟨(snd_not (ih y hy).snd).pe,(sndT_not (ih y hy).tst).pt,fun _ _ => rfl,fun _ => rfl,fun _ _ => rfl,fun _ _ => rfl⟩
  · obtain ⟨y,hy,rfl⟩ := h
    exact gd_val (snd_neg (ih y hy).snd) (fun _ => rfl) (fun _ _ => rfl) (fun _ => rfl) (fun _ _ => rfl) (fun _ _ => rfl)
theorem gd_bin {op : Operator} {o : Bop} {pos : Pos} (ho : trOp op = some o) (ha : Gd T W X E a x) (hb : Gd T W X E b y) : Gd T W X E (.BinOp a op b pos) (.bin o x y) :=
  gd_val (snd_bin ho ha.snd hb.snd) (fun _ => rfl) (fun _ _ => rfl) (fun _ => rfl) (fun _ _ => rfl) (fun _ _ => rfl)
theorem isNone_eq (h : isNone b = true) : ∃ j pos,b = .Constant .none j pos := by
  unfold isNone at h
  split at h
  · rename_i q _
    have := q.2
    cases hc : q.1.1 with
    | none => rw [hc] at this; exact ⟨_,_,this⟩
    | _ => rw [hc] at h; cases h
  · cases h
theorem den_isK {ng : Bool} {op : CmpOp} {r0 : R2} (hr : ∀ (v : V) (H : Hp) (Q : VK),Q (.bl (ng ^^ decide (v = .non))) H → r0 v .non H Q) {ta : TE} (da : Den T W E ta x) : Den T W E (tOp r0 ta (tC .non)) (.isK ng none x) := fun Γ G ρ σ H r Q he h hp => by
  conv at he => lhs; whnf
  refine da.step he h hp fun d t v H1 hk s ok h1 hp1 => ?_
  show r0 v .non H1 Q
  cases d with
  | non =>
    cases hk
    cases (show v = .non from ok.any)
    refine hr _ _ _ ?_
    have := hp1 (.bl (true != ng)) H1 (Same.refl _) rfl
    simpa using this
  | int i =>
    cases hk
    cases (show v = .int i from ok.any)
    refine hr _ _ _ ?_
    have := hp1 (.bl (false != ng)) H1 (Same.refl _) rfl
    simpa using this
  | lst ds =>
    cases hk
    obtain ⟨a,xs,rfl,_⟩ := ok.list
    refine hr _ _ _ ?_
    have := hp1 (.bl (false != ng)) H1 (Same.refl _) rfl
    simpa using this
  | _ => cases hk
theorem gd_isK {ng : Bool} {op : CmpOp} {pos : Pos} (hop : op = if ng then .IsNot else .Is) (hb : isNone b = true) (ha : Gd T W X E a x) : Gd T W X E (.Compare a [op] [b] pos) (.isK ng none x) := by
  obtain ⟨j,p,rfl⟩ := isNone_eq hb
  obtain ⟨ta,pa,da⟩ := ha.snd
  cases ng with
  | false =>
    subst hop
    have dn := den_isK (ng:=false) (op:=.Is) (r0:=fun x y H Q => y = .non ∧ Q (.bl (decide (x = .non))) H) (fun v H Q q => ⟨rfl,by simpa using q⟩) da
    exact ⟨Snd.pe ⟨_,pe_cmpR op_isN pa pe_non rfl,dn⟩,SndT.pt ⟨_,pt_cmpR op_isN pa pe_non rfl,dn.test'⟩,fun _ _ => rfl,fun _ => rfl,fun _ _ => rfl,fun _ _ => rfl⟩
  | true =>
    subst hop
    have dn := den_isK (ng:=true) (op:=.IsNot) (r0:=fun x y H Q => y = .non ∧ Q (.bl (!decide (x = .non))) H) (fun v H Q q => ⟨rfl,by simpa using q⟩) da
    exact ⟨Snd.pe ⟨_,pe_cmpR op_notN pa pe_non rfl,dn⟩,SndT.pt ⟨_,pt_cmpR op_notN pa pe_non rfl,dn.test'⟩,fun _ _ => rfl,fun _ => rfl,fun _ _ => rfl,fun _ _ => rfl⟩
theorem pt_of_pe3 {op op' op'' : CmpOp} {r r' r'' : R2} {ta tb tc td : TE} {d : Expr} {pos : Pos} (ho : OpR X (compareOp op) r) (ho' : OpR X (compareOp op') r') (ho'' : OpR X (compareOp op'') r'') (ha : PE X a ta) (hb : PE X b tb) (hc : PE X c tc) (hd : PE X d td)
    (hm : lastMarks [op,op',op''] [b,c,d] = false) : PT X (.Compare a [op,op',op''] [b,c,d] pos) (tTest (tChain3 r r' r'' ta tb tc td)) := by
  intro pins s σ H Q I h
  refine isTrue_chain (thn (ha pins s σ H _ I h) fun v s1 ⟨x,H1,I1,r1,q1⟩ => test_link (thn (hb pins s1 σ H1 _ I1 q1) fun u s2 ⟨y,H2,I2,r2,q2⟩ =>
    thn (ho pins s2 σ H2 x y v u _ I2 r1 r2 q2) fun d s3 ⟨z,H3,I3,r3,k,e,q3⟩ => ?_)) hm
  subst e
  cases r3
  refine wpAny_truthy_bool ?_
  cases k with
  | false =>
    obtain ⟨k',e',q'⟩ := q3
    cases e'
    exact ite_ff ⟨H3,I3,q'⟩
  | true =>
    refine ite_tt (test_link (thn (hc pins s3 σ H3 _ I3 q3) fun w' s4 ⟨z',H4,I4,r4,q4⟩ => thn (ho' pins s4 σ H4 y z' u w' _ I4 r2 r4 q4) fun d' s5 ⟨z2,H5,I5,r5,k2,e2,q5⟩ => ?_))
    subst e2
    cases r5
    refine wpAny_truthy_bool ?_
    cases k2 with
    | false =>
      obtain ⟨k',e',q'⟩ := q5
      cases e'
      exact ite_ff ⟨H5,I5,q'⟩
    | true =>
      refine ite_tt (test_last (thn (hd pins s5 σ H5 _ I5 q5) fun w'' s6 ⟨z6,H6,I6,r6,q6⟩ => thn (ho'' pins s6 σ H6 z' z6 w' w'' _ I6 r4 r6 q6) fun d'' s7 ⟨z7,H7,I7,r7,k3,e3,q7⟩ => ?_))
      subst e3
      cases r7
      exact wpAny_truthy_bool ⟨H7,I7,q7⟩
theorem gd_cmp (O : XOk T W cm k X N sc E) {go : Go} (ih : ∀ e x,go e = some x → Gd T W X E e x) {ops : List CmpOp} {cs : List Expr} {pos : Pos} (h : trCmp go a ops cs = some x) : Gd T W X E (.Compare a ops cs pos) x := by
  have one : ∀ {o : CmpOp} {b : Expr} {x : Ex},trCmp1 go a o b = some x → Gd T W X E (.Compare a [o] [b] pos) x := fun {o b x} h => by
    unfold trCmp1 at h
    split at h
    · rename_i o' x' y' h1 h2 h3
      cases h
      obtain ⟨r0,OC⟩ := opC_all (T:=T) (X:=X) O.hK O.units h1
      obtain ⟨p1,p2⟩ := snd_cmp (W:=W) (E:=E) (pos:=pos) OC (ih _ _ h2).snd (ih _ _ h3).snd (ih _ _ h3).mark
      exact ⟨p1.pe,p2.pt,fun _ _ => rfl,fun _ => rfl,fun _ _ => rfl,fun _ _ => rfl⟩
    · cases h
  unfold trCmp at h
  split at h
  · split at h
    · unfold trCmpA at h
      split at h
      · obtain ⟨hb,h⟩ := iteN h
        rw [Option.map_eq_some_iff] at h
        obtain ⟨y,hy,rfl⟩ := h
        exact gd_isK (ng:=false) rfl hb (ih _ _ hy)
      · rcases iteI h with ⟨hb,h⟩ | h
        · obtain ⟨y,hy,rfl⟩ := mapI h
          exact gd_isK (ng:=true) rfl hb (ih _ _ hy)
        cases h
      · exact one h
    · cases h
  · split at h
    · unfold trCmpB at h
      split at h
      · rename_i o1 o2 h1 h2
        split at h
        · rename_i x1 x2 x3 h3 h4 h5
          cases h
          obtain ⟨r0,OC⟩ := opC_all (T:=T) (X:=X) O.hK O.units h1
          obtain ⟨r1,OC'⟩ := opC_all (T:=T) (X:=X) O.hK O.units h2
          obtain ⟨ta,pa,da⟩ := (ih _ _ h3).snd
          obtain ⟨tb,pb,db⟩ := (ih _ _ h4).snd
          obtain ⟨tc,pc,dc⟩ := (ih _ _ h5).snd
          have dn := den_chain2 OC OC' da db dc
          have hm := (ih _ _ h5).mark
          exact ⟨Snd.pe ⟨_,pe_chain OC.op OC'.op pa pb pc (hm _),dn⟩,SndT.pt ⟨_,pt_chain OC.op OC'.op pa pb pc (hm _),dn.test'⟩,fun _ _ => rfl,fun _ => rfl,fun _ _ => rfl,fun _ _ => rfl⟩
        · cases h
      · cases h
    · cases h
  · split at h
    · unfold trCmpC at h
      split at h
      · rename_i o1 o2 o3 h1 h2 h3
        split at h
        · rename_i x1 x2 h4 h5
          split at h
          · rename_i x3 x4 h6 h7
            cases h
            obtain ⟨r0,OC⟩ := opC_all (T:=T) (X:=X) O.hK O.units h1
            obtain ⟨r1,OC'⟩ := opC_all (T:=T) (X:=X) O.hK O.units h2
            obtain ⟨r2,OC''⟩ := opC_all (T:=T) (X:=X) O.hK O.units h3
            obtain ⟨ta,pa,da⟩ := (ih _ _ h4).snd
            obtain ⟨tb,pb,db⟩ := (ih _ _ h5).snd
            obtain ⟨tc,pc,dc⟩ := (ih _ _ h6).snd
            obtain ⟨td,pd,dd⟩ := (ih _ _ h7).snd
            have dn := den_chain3 OC OC' OC'' da db dc dd
            have hm := (ih _ _ h7).mark
            exact ⟨Snd.pe ⟨_,pe_chain3 OC.op OC'.op OC''.op pa pb pc pd (hm _),dn⟩,SndT.pt ⟨_,pt_of_pe3 OC.op OC'.op OC''.op pa pb pc pd (hm _),dn.test'⟩,fun _ _ => rfl,fun _ => rfl,fun _ _ => rfl,fun _ _ => rfl⟩
          · cases h
        · cases h
      · cases h
    · cases h
  · cases h
theorem gd_bool {go : Go} (ih : ∀ e x,go e = some x → Gd T W X E e x) {op : BoolOp} {pos : Pos} : ∀ {vs : List Expr} {x : Ex},trBool go op vs = some x → Snd T W X E (.BoolOp op vs pos) x ∧ SndW T W X E (.BoolOp op vs pos) x
  | [],x,h => by cases h
  | [a],x,h => ⟨snd_one (ih _ _ h).snd,sndW_one (ih _ _ h).tst⟩
  | a :: b :: r,x,h => by
    unfold trBool at h
    split at h
    · rename_i x1 x2 h1 h2
      obtain ⟨p,q⟩ := gd_bool ih h2
      cases op with
      | And => cases h; exact ⟨snd_and (ih _ _ h1).snd p,sndW_and (ih _ _ h1).tst q⟩
      | Or => cases h; exact ⟨snd_or (ih _ _ h1).snd p,sndW_or (ih _ _ h1).tst q⟩
    · cases h
end
end Ev
set_option Elab.async false
set_option maxRecDepth 100000
set_option maxHeartbeats 1000000
namespace Ev
open PySem L2 PySem.Spec PyProof.Rows
section
variable {T : Tx} {W : Wd} {cm : Bool} {k : Nat} {X : Cx} {N : List Str} {sc : List (Str × NameKind)} {E : XK} {e a b c : Expr} {x y z : Ex} {go : Go}
theorem gd_sub (O : XOk T W cm k X N sc E) (ih : ∀ e x,go e = some x → Gd T W X E e x) {pos : Pos} (h : trSub go a b = some x) : Gd T W X E (.Subscript a b pos) x := by
  refine gd_val ?_ (fun _ => rfl) (fun _ _ => rfl) (fun _ => rfl) (fun _ _ => rfl) (fun _ _ => rfl)
  have osnd : ∀ {o : Option Expr} {z : Option Ex},trO go o = some z → SndO T W X E o z := fun {o z} h => by
    cases o with
    | none => cases h; exact sndO_none
    | some e =>
      simp only [trO,Option.map_eq_some_iff] at h
      obtain ⟨y,hy,rfl⟩ := h
      exact sndO_some (ih _ _ hy).snd
  unfold trSub at h
  split at h
  · rename_i q _
    obtain ⟨hst,h'⟩ := iteN h
    obtain ⟨y,h1,h'⟩ := bndI h'
    obtain ⟨l,h2,h'⟩ := bndI h'
    obtain ⟨u,h3,rfl⟩ := mapI h'
    have e := q.2
    rw [Option.isNone_iff_eq_none.mp hst] at e
    rw [e]
    exact snd_slice (ih _ _ h1).snd (osnd h2) (osnd h3)
  · obtain ⟨y,h1,h'⟩ := bndI h
    obtain ⟨z,h2,rfl⟩ := mapI h'
    exact snd_ix O.hK (ih _ _ h1).snd (ih _ _ h2).snd (ih _ _ h2).plain
theorem base_ok (h : okBase a = true) (f : Str) (env : PySem.Env) : attributeBase a f env (eval a env) = eval a env := by
  unfold okBase at h
  simp only [Bool.or_eq_true,Option.isSome_iff_exists] at h
  rcases h with ⟨q,_⟩ | ⟨q,_⟩ | ⟨q,_⟩ <;> (rw [q.2]; rfl)
theorem gd_attr (O : XOk T W cm k X N sc E) (ih : ∀ e x,go e = some x → Gd T W X E e x) {f : Str} {pos : Pos} (h : trAttr go a f = some x) : Gd T W X E (.Attribute a f pos) x := by
  refine gd_val ?_ (fun _ => rfl) (fun _ _ => rfl) (fun _ => rfl) (fun _ _ => rfl) (fun _ _ => rfl)
  unfold trAttr at h
  split at h
  · rename_i hb
    split at h
    · rename_i y hy
      split at h
      · rename_i hf
        cases h
        exact snd_fld O.tx O.hK (ih _ _ hy).snd hf (base_ok hb _ _)
      · split at h
        · rename_i hf
          cases h
          exact snd_fld (tf:=true) O.tx O.hK (ih _ _ hy).snd hf (base_ok hb _ _)
        · cases h
    · cases h
  · cases h
theorem sndA_trs (ih : ∀ e x,go e = some x → Gd T W X E e x) : ∀ {es : List Expr} {xs : List Ex},trs go es = some xs → SndA T W X E es xs ∧ ∀ e ∈ es,NoStar e
  | [],xs,h => by cases h; exact ⟨sndA_nil,fun e he => by cases he⟩
  | e :: es,xs,h => by
    unfold trs at h
    split at h
    · rename_i y l h1 h2
      cases h
      obtain ⟨p,q⟩ := sndA_trs ih h2
      refine ⟨sndA_cons (ih _ _ h1).star (ih _ _ h1).snd p,fun e' he => ?_⟩
      rcases List.mem_cons.mp he with rfl | he
      · exact (ih _ _ h1).star
      · exact q e' he
    · cases h
theorem star_map {env : PySem.Env} : ∀ {es : List Expr},(∀ e ∈ es,NoStar e) → starEach es env = es.map fun e => (false,eval e env)
  | [],_ => rfl
  | e :: es,h => by
    rw [h e List.mem_cons_self,star_map fun e' he => h e' (List.mem_cons_of_mem _ he)]; rfl
theorem star_plain {env : PySem.Env} {es : List Expr} {pos : Pos} (h : ∀ e ∈ es,NoStar e) : (backTo pos (starEach es env)).any (·.1) = false := by
  rw [star_map h]
  unfold backTo
  rw [List.map_map,List.any_map]
  induction es with
  | nil => rfl
  | cons e r ih =>
    rw [List.any_cons,ih fun e' he => h e' (List.mem_cons_of_mem _ he)]
    rfl
theorem gd_lst (ih : ∀ e x,go e = some x → Gd T W X E e x) {es : List Expr} {xs : List Ex} {pos : Pos} (h : trs go es = some xs) : Gd T W X E (.List es pos) (.lst xs) :=
  gd_val (snd_lst (sndA_trs ih h).1) (fun _ => rfl) (fun _ _ => rfl) (fun _ => rfl) (fun _ _ => rfl) (fun _ _ => rfl)
theorem gd_tup (ih : ∀ e x,go e = some x → Gd T W X E e x) {es : List Expr} {xs : List Ex} {n : Nat} {pos : Pos} (h : trs go es = some xs) : Gd T W X E (.Tuple es n pos) (.tup xs) :=
  gd_val (snd_tup (sndA_trs ih h).1) (fun _ => rfl) (fun _ _ => rfl) (fun _ => rfl) (fun _ _ => rfl) (fun _ _ => rfl)
theorem gd_ifx (hc : Gd T W X E c z) (ha : Gd T W X E a x) (hb : Gd T W X E b y) {pos : Pos} : Gd T W X E (.IfExp c a b pos) (.ifx z x y) := by
  refine ⟨(snd_ifx hc.tst ha.snd hb.snd).pe,?_,fun _ _ => rfl,fun _ => rfl,fun _ _ => rfl,fun _ _ => rfl⟩
  have pt : PT X (.IfExp c a b pos) (fun σ H Q => tT T W E z σ H fun k H1 => if k = true then tT T W E x σ H1 Q else tT T W E y σ H1 Q) := by
    intro pins s σ H Q I h
    refine isTrue_IfExp (thn (hc.pt pins s σ H _ I h) fun d s1 ⟨H1,I1,q1⟩ => ?_)
    cases d with
    | true => exact ha.pt pins s1 σ H1 Q I1 q1
    | false => exact hb.pt pins s1 σ H1 Q I1 q1
  refine SndT.pt ⟨_,pt,fun Γ G ρ σ H r Q he hb' h hp => ?_⟩
  conv at he => lhs; whnf
  refine denT_tT.step (Q0:=Q) he (fun d t r z => by split at z <;> first | exact ⟨_,rfl⟩ | cases z) h hp.exc fun b t H1 hk s h1 => ?_
  cases b with
  | true => rw [if_pos rfl]; exact ⟨Γ,G,ρ,r,hk,hb',h1,hp.mono s⟩
  | false => rw [if_neg Bool.false_ne_true]; exact ⟨Γ,G,ρ,r,hk,hb',h1,hp.mono s⟩
theorem gd_call_of (h : Snd T W X E (.Call a es [] pos) x) : Gd T W X E (.Call a es [] pos) x := gd_val h (fun _ => rfl) (fun _ _ => rfl) (fun _ => rfl) (fun _ _ => rfl) (fun _ _ => rfl)
theorem snd_plain (O : XOk T W true k X N sc E) (ih : ∀ e x,go e = some x → Gd T W X E e x) {f : Str} {es : List Expr} {p pos : Pos} (hg : isGl sc f = true) (h : trPlain go f es = some x) : Snd T W X E (.Call (.Name f p) es [] pos) x := by
  unfold trPlain at h
  split at h
  · cases h
  · rename_i y ys hs
    obtain ⟨⟨ta,pa,da⟩,ns⟩ := sndA_trs ih hs
    cases es with
    | nil => cases hs
    | cons e0 es0 =>
    have st : starEach (e0 :: es0) X.env = (false,eval e0 X.env) :: starEach es0 X.env := ns e0 List.mem_cons_self _ _
    have pl : (backTo pos (starEach es0 X.env)).any (·.1) = false := star_plain fun e he => ns e (List.mem_cons_of_mem _ he)
    have gl := O.gl _ hg
    obtain ⟨g1,g2⟩ := gl_ok hg
    split at h
    · rename_i bl hb
      cases h
      have cb : ∀ {id : String} {r0 : List V → Hp → VK → Prop} {b : Blt},CallR X (.builtin id) r0 → f ∈ bltNames → bootBuiltins f = some (.builtin id) → RunB T b r0 → some b = some bl → Snd T W X E (.Call (.Name f p) (e0 :: es0) [] pos) (.blt bl (y :: ys)) := fun hc hm hv R e => by
        rw [← Option.some.inj e]
        exact ⟨_,pe_callB hc gl (O.blt _ hm) hv pa g2 g1 st pl,den_blt R da⟩
      have ct : ∀ {id : String} {r0 : List V → Hp → VK → Prop} {b : Blt},CallR X (.type id) r0 → f ∈ bltNames → bootBuiltins f = some (.type id) → RunB T b r0 → some b = some bl → Snd T W X E (.Call (.Name f p) (e0 :: es0) [] pos) (.blt bl (y :: ys)) := fun hc hm hv R e => by
        rw [← Option.some.inj e]
        exact ⟨_,pe_callTy hc gl (O.blt _ hm) hv pa g2 g1 st pl,den_blt R da⟩
      unfold trB at hb
      clear st pl pa da gl g1 g2 hs ns hg ih
      rcases iteI hb with ⟨e,h1⟩ | hb
      · exact cb call_len_seq (by rw [e]; decide +kernel) (by rw [e]; exact PySem.boot_len) (runB_len O.hK) h1
      rcases iteI hb with ⟨e,h1⟩ | hb
      · exact ct call_list_of (by rw [e]; decide +kernel) (by rw [e]; decide +kernel) (runB_list O.hK) h1
      rcases iteI hb with ⟨e,h1⟩ | hb
      · exact cb (CallR.or call_sortedI call_sortedT) (by rw [e]; decide +kernel) (by rw [e]; decide +kernel) (runB_sorted O.hK) h1
      rcases iteI hb with ⟨e,h1⟩ | hb
      · exact cb call_abs (by rw [e]; decide +kernel) (by rw [e]; decide +kernel) runB_abs h1
      rcases iteI hb with ⟨e,h1⟩ | hb
      · exact cb (call_min2 (O.calm rfl)) (by rw [e]; decide +kernel) (by rw [e]; decide +kernel) runB_min h1
      rcases iteI hb with ⟨e,h1⟩ | hb
      · exact cb (call_max2 (O.calm rfl)) (by rw [e]; decide +kernel) (by rw [e]; decide +kernel) runB_max h1
      rcases iteI hb with ⟨e,h1⟩ | hb
      · exact cb (call_allB (O.calm rfl)) (by rw [e]; decide +kernel) (by rw [e]; decide +kernel) runB_all h1
      rcases iteI hb with ⟨e,h1⟩ | hb
      · exact ct call_tuple_of (by rw [e]; decide +kernel) (by rw [e]; decide +kernel) runB_tuple h1
      obtain ⟨e,h1⟩ := iteN hb
      exact ct call_int1 (by rw [e]; decide +kernel) (by rw [e]; decide +kernel) runB_int h1
    · cases h
      cases hf : W.F f with
      | none => exact ⟨fun _ _ _ => False,fun _ _ _ _ _ _ q => q.elim,fun Γ G ρ σ H r Q he h hp => by
          (conv at he => lhs; whnf); rw [hf] at he; cases he⟩
      | some fn => exact ⟨_,O.call f fn hf X rfl rfl O.hK rfl rfl (O.room rfl) E O.pass gl g1 e0 es0 ta p pos pa st pl,den_call hf da⟩
  · cases h
inductive TyD (T : Tx) (H : Hp) : V → String → Prop where
  | non : TyD T H .non "NoneType"
  | bl (b : Bool) : TyD T H (.bl b) "bool"
  | int (i : Int) : TyD T H (.int i) "int"
  | lst {a : Addr} {xs : List V} (e : H a = some (.lst xs)) : TyD T H (.ref a) "list"
  | tup {a : Addr} {xs : List V} (e : SqT T.K H a xs) : TyD T H (.ref a) "tuple"
theorem call_isD (hK : X.K = T.K) : CallR X (.builtin "isinstance") (fun xs H Q => ∃ (v : V) (t c : String) (b : Bool),xs = [v,.ty c] ∧ TyD T H v t ∧ PySem.W.kitOne T.K (.type t) (.type c) = some b ∧ Q (.bl b) H) := by
  intro pins s σ H xs us Q I r h
  obtain ⟨v,t,c,b,rfl,ty,e,q⟩ := h
  obtain ⟨u,u',rfl,ru,rc⟩ := vals2 r
  cases (show u' = Value.type c from rc)
  rw [← hK] at e
  have fin : ∀ tk,EP X pins σ Q (.bool b) { s with toks := tk } := fun tk => ⟨.bl b,H,I.tok tk,rfl,q⟩
  cases ty with
  | non => exact isinst_ok I ru .non e fin
  | bl y => exact isinst_ok I ru (.bl y) e fin
  | int i => exact isinst_ok I ru (.int i) e fin
  | lst ea => exact isinst_ok I ru (.lst ea) e fin
  | @tup a xs ea =>
    cases (show u = Value.ref a from ru)
    rw [← hK] at ea
    obtain ⟨its,_,p,_⟩ := I.tuple ea
    obtain ⟨o,h1,h2,_⟩ := p
    exact PySem.W.kia_one PySem.W.kitx_tuple I.kIn ⟨o,h1,h2⟩ e (fun z => nomatch z) fin
theorem call_isX : CallR X (.builtin "isinstance") (fun xs H Q => ∃ (a D : Addr) (c : V) (cv : Value) (b : Bool),xs = [.ref a,c] ∧ H a = some (.ext (excAt a (.ref D))) ∧ ExC X.K D ∧ (∀ cv',RelV c cv' → cv' = cv) ∧ PySem.W.kitOne X.K (.ref D) cv = some b ∧ Q (.bl b) H) := by
  intro pins s σ H xs us Q I r h
  obtain ⟨a,D,c,cv,b,rfl,ha,ec,un,e,q⟩ := h
  obtain ⟨u,u',rfl,ru,rc⟩ := vals2 r
  cases (show u = Value.ref a from ru)
  rw [un u' rc]
  exact PySem.W.kia_one (kitx_exc ec) I.kIn (show ObjOk X.prog X.w H s.heap a (.ext (excAt a (.ref D))) from I.hok a _ ha).1 e (fun z => nomatch z) fun tk => ⟨.bl b,H,I.tok tk,rfl,q⟩
def dTy : D → Option String
  | .non => some "NoneType"
  | .bl _ => some "bool"
  | .int _ => some "int"
  | .lst _ => some "list"
  | .tup _ => some "tuple"
  | _ => none
theorem dTy_rep {d : D} {s : String} {H : Hp} {C : Addr → Prop} {v : V} (h : dTy d = some s) (r : Rep T H C d v) : TyD T H v s := by
  cases d with
  | non => cases h; rw [show v = .non from r]; exact .non
  | bl b => cases h; rw [show v = .bl b from r]; exact .bl b
  | int i => cases h; rw [show v = .int i from r]; exact .int i
  | lst ds => cases h; obtain ⟨a,xs,e,_,ha,_⟩ := r; rw [e]; exact .lst ha
  | tup ds => cases h; obtain ⟨a,xs,e,ha,_⟩ := r; rw [e]; exact .tup ha
  | _ => cases h
theorem tyI_tab (d : D) (b : Bool) (h : tyI d = some b) : ∃ s,dTy d = some s ∧ tyTab s "int" = some b := by
  cases d with
  | non => exact ⟨_,rfl,h⟩
  | bl b => exact ⟨_,rfl,h⟩
  | int i => exact ⟨_,rfl,h⟩
  | lst ds => exact ⟨_,rfl,h⟩
  | _ => cases h
theorem tyB_tab (d : D) (b : Bool) (h : tyB d = some b) : ∃ s,dTy d = some s ∧ tyTab s "bool" = some b := by
  cases d with
  | non => exact ⟨_,rfl,h⟩
  | bl b => exact ⟨_,rfl,h⟩
  | int i => exact ⟨_,rfl,h⟩
  | lst ds => exact ⟨_,rfl,h⟩
  | _ => cases h
theorem tyL_tab (d : D) (b : Bool) (h : tyL d = some b) : ∃ s,dTy d = some s ∧ tyTab s "list" = some b := by
  cases d with
  | non => exact ⟨_,rfl,h⟩
  | bl b => exact ⟨_,rfl,h⟩
  | int i => exact ⟨_,rfl,h⟩
  | lst ds => exact ⟨_,rfl,h⟩
  | tup ds => exact ⟨_,rfl,h⟩
  | _ => cases h
theorem tyT_tab (d : D) (b : Bool) (h : tyT d = some b) : ∃ s,dTy d = some s ∧ tyTab s "tuple" = some b := by
  cases d with
  | lst ds => exact ⟨_,rfl,h⟩
  | tup ds => exact ⟨_,rfl,h⟩
  | _ => cases h
theorem snd_isi (O : XOk T W cm k X N sc E) (ih : ∀ e x,go e = some x → Gd T W X E e x) {f : Str} {es : List Expr} {p pos : Pos} (hf : f = "isinstance") (hg : isGl sc f = true) (h : trIsi go sc es = some x) : Snd T W X E (.Call (.Name f p) es [] pos) x := by
  subst hf
  have gl := O.gl _ hg
  obtain ⟨g1,g2⟩ := gl_ok hg
  obtain ⟨⟨a,b⟩,h2,h3⟩ := bndI h
  obtain ⟨t,ht,h4⟩ := bndI h3
  obtain ⟨hgt,h5⟩ := iteN h4
  obtain ⟨ty,h1,h6⟩ := bndI h5
  obtain ⟨y,hy2,e0⟩ := mapI h6
  clear h h3 h4 h5 h6
  subst e0
  obtain ⟨p',e1⟩ := nameOf_eq ht
  clear ht
  rw [twoOf_eq h2,show (a,b).2 = _ from e1]
  clear h2 e1
  · · obtain ⟨g1',g2'⟩ := gl_ok hgt
      have main : ∀ (ty : Ty) (c : String) (y : Ex),go a = some y → bootBuiltins t = some (.type c) → t ∈ bltNames → (∀ d b,tyD W.sub d ty = some b → ∃ s,dTy d = some s ∧ tyTab s c = some b) → Snd T W X E (.Call (.Name "isinstance" p) [a,.Name t p'] [] pos) (.isinst y ty) := fun ty c y hy hb hm hd => by
        obtain ⟨ta,pa,da⟩ := (ih _ _ hy).snd
        have pt : PE X (.Name t p') (tC (.ty c)) := pe_bltn (O.gl _ hgt) (O.blt _ hm) hb rfl g2' g1'
        have hst := (ih _ _ hy).star
        have pA : PA X [a,.Name t p'] (tCons ta (tCons (tC (.ty c)) tNil)) := pa_cons pa (pa_cons pt pa_nil rfl) (hst _ _)
        refine ⟨_,pe_callB (call_isD (T:=T) O.hK) gl (O.blt _ (by decide +kernel)) (by decide +kernel) pA g2 g1 (hst _ _) rfl,fun Γ G ρ σ H r Q he h hp => ?_⟩
        conv at he => lhs; whnf
        refine da.step he h hp fun d t v H1 hk s ok h1 hp1 => ?_
        unfold blR at hk
        split at hk
        · cases hk
        · rename_i b hb'
          cases hk
          obtain ⟨s',ty',e'⟩ := hd d b hb'
          exact ⟨v,s',c,b,rfl,dTy_rep ty' ok.any,O.ty _ _ _ e',hp1 _ H1 (Same.refl _) rfl⟩
      · unfold trTyB at h1
        rcases iteI h1 with ⟨e,h2⟩ | h1
        · rw [← Option.some.inj h2]; exact main .int "int" y hy2 (by rw [e]; decide +kernel) (by rw [e]; decide +kernel) tyI_tab
        rcases iteI h1 with ⟨e,h2⟩ | h1
        · rw [← Option.some.inj h2]; exact main .bool "bool" y hy2 (by rw [e]; decide +kernel) (by rw [e]; decide +kernel) tyB_tab
        rcases iteI h1 with ⟨e,h2⟩ | h1
        · rw [← Option.some.inj h2]; exact main .list "list" y hy2 (by rw [e]; decide +kernel) (by rw [e]; decide +kernel) tyL_tab
        rcases iteI h1 with ⟨e,h2⟩ | h1
        · rw [← Option.some.inj h2]; exact main .tuple "tuple" y hy2 (by rw [e]; decide +kernel) (by rw [e]; decide +kernel) tyT_tab
        obtain ⟨e,h2⟩ := iteN h1
        rw [← Option.some.inj h2]
        obtain ⟨ta,pa,da⟩ := (ih _ _ hy2).snd
        have hst := (ih _ _ hy2).star
        have fin : ∀ (c : V) (cv : Value),PE X (.Name t p') (tC c) → RelV c cv → (∀ cv',RelV c cv' → cv' = cv) → (∀ c x b,W.sub c t = some b → ∃ D,T.cv c = .ref D ∧ ExC T.K D ∧ PySem.W.kitOne T.K (.ref D) cv = some b) → Snd T W X E (.Call (.Name "isinstance" p) [a,.Name t p'] [] pos) (.isinst y (.cls t)) := fun c cv pt rc un hk => by
          have pA : PA X [a,.Name t p'] (tCons ta (tCons (tC c) tNil)) := pa_cons pa (pa_cons pt pa_nil rfl) (hst _ _)
          refine ⟨_,pe_callB call_isX gl (O.blt _ (by decide +kernel)) (by decide +kernel) pA g2 g1 (hst _ _) rfl,fun Γ G ρ σ H r Q he h hp => ?_⟩
          conv at he => lhs; whnf
          refine da.step he h hp fun d t' v H1 hb s ok h1 hp1 => ?_
          unfold blR at hb
          split at hb
          · cases hb
          · rename_i b hb'
            cases hb
            cases d with
            | exc cc =>
              obtain ⟨D,e1,e2,e3⟩ := hk cc t b hb'
              obtain ⟨a0,e0,q⟩ := ok.any
              subst e0
              rw [e1] at q
              rw [← O.hK] at e2 e3
              exact ⟨a0,D,c,cv,b,rfl,q,e2,un,e3,hp1 _ H1 (Same.refl _) rfl⟩
            | _ => cases hb'
        rcases O.exi.1 t e with e' | ⟨C,hC⟩
        · subst e'
          refine fin (.ty "ValueError") (.type "ValueError") (pe_bltn (O.gl _ hgt) (O.blt _ (by decide +kernel)) (by decide +kernel) rfl g2' g1') rfl (fun _ z => z) fun c x b hb => ?_
          obtain ⟨D,e1,e2,e3⟩ := O.exi.2 c _ b hb
          rcases e3 with ⟨_,e3⟩ | ⟨C,hC,_⟩
          · exact ⟨D,e1,e2,e3⟩
          · rw [O.blt _ (by decide +kernel)] at hC; cases hC
        · refine fin (.ref C) (.ref C) (pe_glob (O.gl _ hgt) hC rfl g1') rfl (fun _ z => z) fun c x b hb => ?_
          obtain ⟨D,e1,e2,e3⟩ := O.exi.2 c _ b hb
          rcases e3 with ⟨z,_⟩ | ⟨C',hC',e3⟩
          · rw [z,O.blt "ValueError" (by decide +kernel)] at hC; cases hC
          · rw [hC] at hC'; cases hC'; exact ⟨D,e1,e2,e3⟩
end
end Ev
set_option Elab.async false
set_option maxRecDepth 100000
set_option maxHeartbeats 1000000
namespace Ev
open PySem L2 PySem.Spec PyProof.Rows
section
variable {T : Tx} {W : Wd} {cm : Bool} {k : Nat} {X : Cx} {N : List Str} {sc : List (Str × NameKind)} {E : XK} {e a b c : Expr} {x y z : Ex} {go : Go}
theorem inner_of {es : List Expr} {g : Str} {as : List Expr} (h : innerCall sc es = some (g,as)) : ∃ p pos,es = [.Call (.Name g p) as [] pos] ∧ isGl sc g = true := by
  obtain ⟨e,he,h'⟩ := bndI h
  obtain ⟨q,hq,h'⟩ := bndI h'
  obtain ⟨hg,h'⟩ := iteN h'
  cases h'
  obtain ⟨p,pos,rfl⟩ := callOf_eq hq
  exact ⟨p,pos,oneOf_eq he,hg⟩
theorem snd_callN (O : XOk T W cm k X N sc E) (ih : ∀ e x,go e = some x → Gd T W X E e x) {f : Str} {es : List Expr} {p pos : Pos} (hg : isGl sc f = true) (h : trCallN cm go sc f es = some x) : Snd T W X E (.Call (.Name f p) es [] pos) x := by
  unfold trCallN at h
  split at h
  · rename_i hf; exact snd_isi O ih hf hg h
  split at h
  · rename_i hcm
    subst hcm
    have gl := O.gl _ hg
    obtain ⟨g1,g2⟩ := gl_ok hg
    split at h
    · rename_i g as hi
      obtain ⟨p',pos',rfl,hgg⟩ := inner_of hi
      obtain ⟨g1',g2'⟩ := gl_ok hgg
      have gl' := O.gl _ hgg
      split at h
      · rename_i e
        obtain ⟨rfl,rfl⟩ := e
        split at h
        · rename_i a
          rw [Option.map_eq_some_iff] at h
          obtain ⟨y,hy,rfl⟩ := h
          have hst := (ih _ _ hy).star
          obtain ⟨ta,pa,da⟩ := sndA_cons hst (ih _ _ hy).snd (sndA_nil (T:=T) (W:=W) (X:=X) (E:=E))
          have pin : PE X (.Call (.Name "set" p') [a] [] pos') _ := pe_callTy (call_setI (O.calm rfl)) gl' (O.blt _ (by decide +kernel)) (by decide +kernel) pa g2' g1' (hst _ _) rfl
          exact ⟨_,pe_callB call_lenS gl (O.blt _ (by decide +kernel)) PySem.boot_len (pa_cons pin pa_nil rfl) g2 g1 rfl rfl,den_lset O.hK da⟩
        · cases h
      split at h
      · rename_i e
        obtain ⟨rfl,rfl⟩ := e
        split at h
        · rename_i a
          rw [Option.map_eq_some_iff] at h
          obtain ⟨y,hy,rfl⟩ := h
          have hst := (ih _ _ hy).star
          obtain ⟨ta,pa,da⟩ := sndA_cons hst (ih _ _ hy).snd (sndA_nil (T:=T) (W:=W) (X:=X) (E:=E))
          have pin : PE X (.Call (.Name "range" p') [a] [] pos') _ := pe_callTy call_rangeV gl' (O.blt _ (by decide +kernel)) (by decide +kernel) pa g2' g1' (hst _ _) rfl
          exact ⟨_,pe_callTy (call_list_rng (O.calm rfl)) gl (O.blt _ (by decide +kernel)) (by decide +kernel) (pa_cons pin pa_nil rfl) g2 g1 rfl rfl,den_listrange1 da⟩
        · rename_i a b
          split at h
          · rename_i y z hy hz
            cases h
            have hst := (ih _ _ hy).star
            have hst' := (ih _ _ hz).star
            obtain ⟨ta,pa,da⟩ := sndA_cons hst (ih _ _ hy).snd (sndA_cons hst' (ih _ _ hz).snd (sndA_nil (T:=T) (W:=W) (X:=X) (E:=E)))
            have pin : PE X (.Call (.Name "range" p') [a,b] [] pos') _ := pe_callTy call_rangeV2 gl' (O.blt _ (by decide +kernel)) (by decide +kernel) pa g2' g1' (hst _ _) (star_plain fun e he => by rw [List.mem_singleton.mp he]; exact hst')
            exact ⟨_,pe_callTy (call_list_rng (O.calm rfl)) gl (O.blt _ (by decide +kernel)) (by decide +kernel) (pa_cons pin pa_nil rfl) g2 g1 rfl rfl,den_listrange2 da⟩
          · cases h
        · cases h
      · exact snd_plain O ih hg h
    · exact snd_plain O ih hg h
  · cases h
theorem countD_ok {H : Hp} {C C' : Addr → Prop} {d : D} {v : V} (hx : Rep T H C d v) : ∀ {ds : List D} {xs : List V} {n : Nat},countD d ds = some n → Reps T H C' ds xs → xs.all flatV = true ∧ (xs.countP fun z => eqV z v) = n
  | [],_,n,h,r => by cases h; cases r; exact ⟨rfl,rfl⟩
  | d' :: ds,_,n,h,⟨w,ws,e,r,rs⟩ => by
    subst e
    obtain ⟨p,hp,h0⟩ := bndI h
    obtain ⟨q,hq,e⟩ := mapI h0
    obtain ⟨h1,h2,h3,_⟩ := eqF_flat hp r hx
    obtain ⟨k1,k2⟩ := countD_ok hx hq rs
    refine ⟨by rw [List.all_cons,h1,k1]; rfl,?_⟩
    rw [List.countP_cons,k2,← h3,← e]
    cases p <;> rfl
theorem snd_count (O : XOk T W cm k X N sc E) {o : Expr} {m : Str} {q pos : Pos} (hm : m = "count") (hb : okBase o = true) (hl : (q.endLine == pos.line) = true) (ho : Gd T W X E o x) (ha : Gd T W X E a y) : Snd T W X E (.Call (.Attribute o m q) [a] [] pos) (.count x y) := by
  subst hm
  obtain ⟨to,po,d0⟩ := ho.snd
  obtain ⟨ta,pa,da⟩ := ha.snd
  have hst := ha.star
  refine ⟨_,pe_bm PySem.F.plainAttrs_list PySem.F.slot_list_count PySem.F.type_list_count mt_count po (pa_cons pa pa_nil (hst _ _)) (base_ok hb _ _) (by rw [hst]; rfl) hl (hst _ _) rfl,fun Γ G ρ σ H r Q he h hp => ?_⟩
  conv at he => lhs; whnf
  refine d0.step he h hp fun d t v H1 hk s ok h1 hp1 => ?_
  split at hk
  · rename_i ds
    obtain ⟨l,xs,rfl,hl',rs⟩ := ok.list
    refine ⟨.inl ⟨rfl,xs,SqL.of hl'⟩,?_⟩
    refine da.step hk h1 hp1 fun d' t' v' H2 hk s2 ok2 h2 hp2 => ?_
    split at hk
    · rename_i hf
      split at hk
      · rename_i n hn
        cases hk
        obtain ⟨k1,k2⟩ := countD_ok ok2.any hn (rs.same s2)
        refine ⟨l,xs,v',rfl,rfl,SqL.of (s2 _ _ hl'),flatD_ok hf ok2.any,k1,?_⟩
        rw [k2]
        exact hp2 _ H2 (Same.refl _) rfl
      · cases hk
    · cases hk
  · cases hk
theorem idxD_ok {H : Hp} {C C' : Addr → Prop} {d : D} {v : V} (hx : Rep T H C d v) : ∀ {ds : List D} {xs : List V} {n : Nat},idxD d ds = some n → Reps T H C' ds xs → ∃ z,xs[n]? = some z ∧ eqV z v = true ∧ ∀ (m : Nat) (z : V),m < n → xs[m]? = some z → eqV z v = false
  | [],_,n,h,r => by cases h
  | d' :: ds,_,n,h,⟨w,ws,e,r,rs⟩ => by
    subst e
    obtain ⟨p,hp,h0⟩ := bndI h
    obtain ⟨h1,h2,h3,_⟩ := eqF_flat hp r hx
    cases p with
    | true =>
      cases h0
      exact ⟨w,rfl,h3.symm,fun m z hm => absurd hm (Nat.not_lt_zero _)⟩
    | false =>
      obtain ⟨q,hq,e⟩ := mapI (show (idxD d ds).map (fun n => n + 1) = some n from h0)
      obtain ⟨z,k1,k2,k3⟩ := idxD_ok hx hq rs
      subst e
      refine ⟨z,k1,k2,fun m z' hm hz => ?_⟩
      cases m with
      | zero => cases hz; exact h3.symm
      | succ m => exact k3 m z' (Nat.lt_of_succ_lt_succ hm) hz
theorem snd_index (O : XOk T W cm k X N sc E) {o : Expr} {m : Str} {q pos : Pos} (hm : m = "index") (hb : okBase o = true) (hl : (q.endLine == pos.line) = true) (ho : Gd T W X E o x) (ha : Gd T W X E a y) : Snd T W X E (.Call (.Attribute o m q) [a] [] pos) (.index x y) := by
  subst hm
  obtain ⟨to,po,d0⟩ := ho.snd
  obtain ⟨ta,pa,da⟩ := ha.snd
  have hst := ha.star
  refine ⟨_,pe_bm PySem.F.plainAttrs_list PySem.F.slot_list_index PySem.F.type_list_index mt_index po (pa_cons pa pa_nil (hst _ _)) (base_ok hb _ _) (by rw [hst]; rfl) hl (hst _ _) rfl,fun Γ G ρ σ H r Q he h hp => ?_⟩
  conv at he => lhs; whnf
  refine d0.step he h hp fun d t v H1 hk s ok h1 hp1 => ?_
  split at hk
  · rename_i ds
    obtain ⟨l,xs,rfl,hl',rs⟩ := ok.list
    refine ⟨.inl ⟨rfl,xs,SqL.of hl'⟩,?_⟩
    refine da.step hk h1 hp1 fun d' t' v' H2 hk s2 ok2 h2 hp2 => ?_
    split at hk
    · rename_i hf
      split at hk
      · rename_i n hn
        cases hk
        obtain ⟨c,hc,hi⟩ := bndI hn
        obtain ⟨k1,_⟩ := countD_ok ok2.any hc (rs.same s2)
        obtain ⟨z,k2,k3,k4⟩ := idxD_ok ok2.any hi (rs.same s2)
        exact ⟨l,xs,v',z,n,rfl,rfl,SqL.of (s2 _ _ hl'),flatD_ok hf ok2.any,k1,k2,k3,k4,hp2 _ H2 (Same.refl _) rfl⟩
      · cases hk
    · cases hk
  · cases hk
theorem gd_call (O : XOk T W cm k X N sc E) (ih : ∀ e x,go e = some x → Gd T W X E e x) {f : Expr} {es : List Expr} {pos : Pos} (h : trCall cm go sc es pos f = some x) : Gd T W X E (.Call f es [] pos) x := by
  refine gd_call_of ?_
  rcases altI h with ⟨q,h'⟩ | h'
  · obtain ⟨hg,h'⟩ := iteN h'
    rw [q.2]
    exact snd_callN O ih hg h'
  · obtain ⟨q,_,h'⟩ := bndI h'
    obtain ⟨hb,h'⟩ := iteN h'
    rw [Bool.and_eq_true] at hb
    obtain ⟨a,ha,h'⟩ := bndI h'
    obtain ⟨x1,h1,h'⟩ := bndI h'
    obtain ⟨x2,h2,h'⟩ := bndI h'
    rw [q.2,oneOf_eq ha]
    rcases iteI h' with ⟨hm,h'⟩ | h'
    · cases h'
      exact snd_count O hm hb.1 hb.2 (ih _ _ h1) (ih _ _ h2)
    obtain ⟨hm,h'⟩ := iteN h'
    cases h'
    exact snd_index O hm hb.1 hb.2 (ih _ _ h1) (ih _ _ h2)
theorem nodup_of : ∀ {l : List Str},nodupB l = true → l.Nodup
  | [],_ => List.nodup_nil
  | x :: r,h => by
    simp only [nodupB,Bool.and_eq_true,Bool.not_eq_true'] at h
    refine List.nodup_cons.mpr ⟨fun hm => ?_,nodup_of h.2⟩
    have := List.contains_iff_mem.mpr hm
    rw [h.1] at this
    cases this
theorem lookup_mem {sc : List (Str × NameKind)} {x : Str} {kd : NameKind} (h : kindIn sc x = some kd) : (x,kd) ∈ sc := PySem.mem_of_lookup h
theorem block_of {scope : List (Str × NameKind)} (h : okBlock sc scope = true) {p : Str × NameKind} (hp : p ∈ scope) : p.2 ≠ .cell ∧ (p.2 = .local → kindIn scope p.1 = some .local) ∧ (p.2 = .free → (kindIn sc p.1 = some .cell ∨ kindIn sc p.1 = some .free) ∧ kindIn scope p.1 = some .free) := by
  unfold okBlock at h
  have q := List.all_eq_true.mp h p hp
  obtain ⟨x,kd⟩ := p
  cases kd with
  | «local» =>
    refine ⟨fun z => (by cases z),fun _ => ?_,fun z => (by cases z)⟩
    dsimp only at q ⊢
    split at q
    · assumption
    · cases q
  | free =>
    refine ⟨fun z => (by cases z),fun z => (by cases z),fun _ => ?_⟩
    dsimp only at q ⊢
    split at q
    · rename_i h1 h2; exact ⟨.inl h1,h2⟩
    · rename_i h1 h2; exact ⟨.inr h1,h2⟩
    · cases q
  | cell => cases q
  | _ => exact ⟨fun z => (by cases z),fun z => (by cases z),fun z => (by cases z)⟩
theorem trTg_inv {tg : Expr} {t : Tg} (h : trTg N sc tg = some t) : (∃ x p i,tg = .Name x p ∧ isLoc sc x = true ∧ slot N x = some i ∧ t = .name i) ∨
    (∃ x p y q m r i j,tg = .Tuple [.Name x p,.Name y q] m r ∧ isLoc sc x = true ∧ isLoc sc y = true ∧ slot N x = some i ∧ slot N y = some j ∧ i ≠ j ∧ t = .tup [i,j]) := by
  rcases altI h with ⟨q,h'⟩ | h'
  · obtain ⟨hl,h'⟩ := iteN h'
    obtain ⟨i,hi,rfl⟩ := mapI h'
    exact .inl ⟨q.1.1,q.1.2,i,q.2,hl,hi,rfl⟩
  · obtain ⟨q,_,h'⟩ := bndI h'
    obtain ⟨ab,h2,h'⟩ := bndI h'
    obtain ⟨x,hx,h'⟩ := bndI h'
    obtain ⟨y,hy,h'⟩ := bndI h'
    obtain ⟨hl,h'⟩ := iteN h'
    obtain ⟨i,hi,h'⟩ := bndI h'
    obtain ⟨j,hj,h'⟩ := bndI h'
    rw [Bool.and_eq_true] at hl
    obtain ⟨p1,e1⟩ := nameOf_eq hx
    obtain ⟨p2,e2⟩ := nameOf_eq hy
    have e := q.2
    rw [twoOf_eq h2,e1,e2] at e
    by_cases hij : i = j
    · rw [if_pos hij] at h'; cases h'
    · rw [if_neg hij] at h'
      cases h'
      exact .inr ⟨x,p1,y,p2,_,_,i,j,e,hl.1,hl.2,hi,hj,hij,rfl⟩
theorem inIx_get {scope : List (Str × NameKind)} {N' : List Str} {j i : Nat} (h : (inIx N scope N')[j]? = some (some i)) : ∃ x,N'[j]? = some x ∧ kindIn scope x = some .free ∧ slot N x = some i := by
  unfold inIx at h
  rw [List.getElem?_map,Option.map_eq_some_iff] at h
  obtain ⟨x,h1,h2⟩ := h
  split at h2
  · rename_i hk; exact ⟨x,h1,hk,h2⟩
  · cases h2
theorem inIx_inj {scope : List (Str × NameKind)} {N' : List Str} (nd : N'.Nodup) (i j m : Nat) (h1 : (inIx N scope N')[i]? = some (some m)) (h2 : (inIx N scope N')[j]? = some (some m)) : i = j := by
  obtain ⟨x,a1,_,a3⟩ := inIx_get h1
  obtain ⟨y,b1,_,b3⟩ := inIx_get h2
  have e : x = y := by
    have q1 := slot_get a3
    have q2 := slot_get b3
    rw [q1] at q2
    exact Option.some.inj q2
  subst e
  have hi : i < N'.length := (List.getElem?_eq_some_iff.mp a1).1
  exact (List.getElem?_inj hi nd).mp (a1.trans b1.symm)
theorem lcScope (O : XOk T W cm k X N sc E) {scope : Scope} (hb : okBlock sc scope.names = true) (hk : scope.kind = .function) : LcScope X (inNames scope.names) (inIx N scope.names (inNames scope.names)) scope where
  kind := hk
  nocell := fun y hy => (block_of hb hy).1
  names := fun x hx hl => (block_of hb hx).2.1 hl
  free := fun x hx hf => O.kinds _ ((block_of hb hx).2.2 hf).1
  len := by simp [inIx]
  at_ := fun j i h => by
    obtain ⟨x,h1,h2,h3⟩ := inIx_get h
    exact ⟨x,h1,by rw [O.hN]; exact slot_get h3,h2⟩
theorem comp_kind {scope : Scope} {cl : List (Str × Addr)} {C : Addr} {s : Shared} {H : Hp} {fp : List Addr} {N' : List Str} (x : Str) :
    (compCx X N' scope cl C s H fp).env.scope.names.lookup x = (scope.names.lookup x).map fun kd => if (kd == NameKind.free && X.env.scope.kind == .function && X.env.kindOf x == some .cell) then NameKind.cell else kd := kindOf_relabel
theorem xok_comp (O : XOk T W cm k X N sc E) {scope : Scope} {cl : List (Str × Addr)} {C : Addr} {s : Shared} {H : Hp} {fp : List Addr} : XOk T W cm k (compCx X (inNames scope.names) scope cl C s H fp) (inNames scope.names) scope.names EN where
  hK := O.hK
  hN := rfl
  tx := O.tx
  vis := fun x h => by
    unfold isVis at h
    rw [Bool.and_eq_true] at h
    have h := h.2
    unfold Vis
    rw [comp_kind]
    unfold kindIn at h
    split at h
    · rename_i e; rw [e]; exact .inl rfl
    · rename_i e; rw [e]; exact .inr (.inl rfl)
    · rename_i e
      rw [e]
      dsimp only [Option.map]
      split
      · exact .inr (.inl rfl)
      · exact .inr (.inr rfl)
    · cases h
  gl := fun x h => by
    unfold isGl at h
    rw [Bool.and_eq_true] at h
    have h := h.2
    show (compCx X (inNames scope.names) scope cl C s H fp).env.scope.names.lookup x = some .globalImplicit
    rw [comp_kind]
    unfold kindIn at h
    split at h
    · rename_i e; rw [e]; rfl
    · cases h
  kinds := fun x h => by
    rw [comp_kind]
    unfold kindIn at h
    rcases h with h | h
    · rw [h]; exact .inl rfl
    · rw [h]
      dsimp only [Option.map]
      split
      · exact .inl rfl
      · exact .inr rfl
  calm := O.calm
  room := O.room
  units := O.units
  call := O.call
  blt := O.blt
  glob := O.glob
  pass := pass1
  ty := O.ty
  exi := O.exi
def gOf (K : PySem.W.Frag) : Tg → TG
  | .name i => gName i
  | .tup [i,j] => gTup K 2 (gCons (gName i) (gCons (gName j) gNil))
  | _ => fun _ _ _ _ => False
theorem pg_of (hK : X.K = T.K) (hc : X.calm = true) (hN : X.N = N) (nd : N.Nodup) (hloc : ∀ x,isLoc sc x = true → Loc X.env.scope x ∧ (X.fn x = true ∨ X.env.scope.names.lookup x = some .local)) {tg : Expr} {t : Tg} (h : trTg N sc tg = some t) :
    PG X tg (gOf T.K t) := by
  have one : ∀ {x : Str} {i : Nat} {p : Pos},isLoc sc x = true → slot N x = some i → PG X (.Name x p) (gName i) := fun {x i p} h1 h2 => pg_name (by rw [hN]; exact nd) (by rw [hN]; exact slot_get h2) (hloc _ h1).1 (hloc _ h1).2
  rcases trTg_inv h with ⟨x,p,i,rfl,hl,hi,rfl⟩ | ⟨x,p,y,q,m,r,i,j,rfl,hl,hl',hi,hj,hij,rfl⟩
  · exact one hl hi
  · rw [← hK]
    exact pg_tup hc (pgs_cons (one hl hi) (pgs_cons (one hl' hj) pgs_nil rfl) rfl) rfl rfl
theorem tgOk_of {tg : Expr} {t : Tg} (h : trTg N sc tg = some t) : TgOk T (gOf T.K t) t := by
  rcases trTg_inv h with ⟨x,p,i,rfl,hl,hi,rfl⟩ | ⟨x,p,y,q,m,r,i,j,rfl,hl,hl',hi,hj,hij,rfl⟩
  · exact tgOk_name
  · exact tgOk_tup rfl
theorem tg_off {scope : List (Str × NameKind)} (hb : okBlock sc scope = true) {tg : Expr} {t : Tg} (h : trTg (inNames scope) scope tg = some t) : ∀ j ∈ tgSlots t,∀ i,(inIx N scope (inNames scope))[j]? ≠ some (some i) := by
  have one : ∀ {x : Str} {j i : Nat},isLoc scope x = true → slot (inNames scope) x = some j → (inIx N scope (inNames scope))[j]? ≠ some (some i) := fun {x j i} h1 h2 q => by
    obtain ⟨y,a1,a2,_⟩ := inIx_get q
    have e := slot_get h2
    rw [a1] at e
    cases e
    unfold isLoc at h1
    rw [a2] at h1
    cases h1
  rcases trTg_inv h with ⟨x,p,i,rfl,hl,hi,rfl⟩ | ⟨x,p,y,q,m,r,i,j,rfl,hl,hl',hi,hj,hij,rfl⟩
  · intro j hj i'
    simp only [tgSlots,List.mem_singleton] at hj
    subst hj
    exact one hl hi
  · intro m hm i'
    simp only [tgSlots,List.mem_cons,List.not_mem_nil,or_false] at hm
    rcases hm with rfl | rfl
    · exact one hl hi
    · exact one hl' hj
theorem range_of {iter : Expr} {as : List Expr} (h : rangeArgs sc iter = some as) : ∃ p pos,iter = .Call (.Name "range" p) as [] pos ∧ isGl sc "range" = true := by
  obtain ⟨q,hq,h'⟩ := bndI h
  obtain ⟨hg,h'⟩ := iteN h'
  cases h'
  rw [Bool.and_eq_true,decide_eq_true_eq] at hg
  obtain ⟨p,pos,e⟩ := callOf_eq hq
  rw [hg.1] at e
  exact ⟨p,pos,e,by rw [← hg.1]; exact hg.2⟩
theorem lc_parts (O : XOk T W true k X N sc E) {scope : Scope} {N' : List Str} {ix : List (Option Nat)} {wi : TI} {g : TG} {tt : TT} {te : TE} {tg iter elt : Expr} {ifs : List Expr} {pos : Pos} (S : LcScope X N' ix scope) (pg : ∀ cl C s H fp,PG (compCx X N' scope cl C s H fp) tg g)
    (ptt : ∀ cl C s H fp,PTs (compCx X N' scope cl C s H fp) ifs tt) (pel : ∀ cl C s H fp,PE (compCx X N' scope cl C s H fp) elt te) (hi : PI X tg iter wi) (hs : ∀ v,foldedSetIterable iter X.env v = pure v) (dn : Den T W E (tLc wi ix g tt te) x) : ∃ t,PE X (.ListComp elt [⟨tg,iter,ifs,0⟩] scope pos) t ∧ Den T W E t x ∧
      ∀ {i : Nat} {x' : Str} {pos' spos : Pos},X.N.Nodup → X.N[i]? = some x' → X.env.scope.names.lookup x' = some .local → swapsWith (.ListComp elt [⟨tg,iter,ifs,0⟩] scope pos) (some (.Name x' pos')) spos.line X.env = pure true →
        PS X (.Assign [.Name x' pos'] (.ListComp elt [⟨tg,iter,ifs,0⟩] scope pos) spos) (tAsg t (gName i)) := ⟨_,pe_lc (O.calm rfl) S hi pg ptt pel hs,dn,fun hN hi' hx hsw => ps_lcset hN hi' hx (O.calm rfl) S hi pg ptt pel hsw hs⟩
theorem nameT_eq {t : Tg} {i : Nat} (h : nameT t = some i) : t = .name i := by
  cases t with
  | name j => cases h; rfl
  | tup is => cases h
theorem gen_eq {g : Comprehension} (h : g.is_async = 0) : g = ⟨g.target,g.iter,g.ifs,0⟩ := by
  cases g; cases h; rfl
theorem comp_parts (O : XOk T W cm k X N sc E) (ih : ∀ e x,go e = some x → Gd T W X E e x) {goIn : List Str → List (Str × NameKind) → Go} {scope : Scope}
    (ihIn : ∀ cl C s H fp e x,goIn (inNames scope.names) scope.names e = some x → Gd T W (compCx X (inNames scope.names) scope cl C s H fp) EN e x)
    {elt : Expr} {gens : List Comprehension} {pos : Pos} (h : trComp cm go goIn N sc elt scope gens = some x) : ∃ t,PE X (.ListComp elt gens scope pos) t ∧ Den T W E t x ∧
      ∀ {i : Nat} {x' : Str} {pos' spos : Pos},X.N.Nodup → X.N[i]? = some x' → X.env.scope.names.lookup x' = some .local → swapsWith (.ListComp elt gens scope pos) (some (.Name x' pos')) spos.line X.env = pure true →
        PS X (.Assign [.Name x' pos'] (.ListComp elt gens scope pos) spos) (tAsg t (gName i)) := by
  obtain ⟨gn,hgn,h1⟩ := bndI h
  obtain ⟨hc,h2⟩ := iteN h1
  obtain ⟨tst,htst,h3⟩ := bndI h2
  obtain ⟨el,hel,h4⟩ := bndI h3
  obtain ⟨t,ht,h5⟩ := bndI h4
  simp only [Bool.and_eq_true,decide_eq_true_eq] at hc
  obtain ⟨ecm,has,hb,hk,hnd⟩ := hc
  rw [oneOf_eq hgn,gen_eq has]
  subst ecm
  clear h h1 h2 h3 h4 hgn has
  have nd := nodup_of hnd
  have S := lcScope O hb hk
  have inj := inIx_inj (N:=N) (scope:=scope.names) nd
  have off := tg_off (N:=N) hb ht
  have tok := @tgOk_of T _ _ _ _ ht
  have pg : ∀ cl C s H fp,PG (compCx X (inNames scope.names) scope cl C s H fp) gn.target (gOf T.K t) := fun cl C s H fp => by
    refine pg_of (X:=compCx X (inNames scope.names) scope cl C s H fp) O.hK (O.calm rfl) rfl nd (fun x hl => ?_) ht
    have hloc : scope.names.lookup x = some .local := by
      unfold isLoc at hl
      split at hl
      · assumption
      · rename_i e; exact absurd rfl (block_of hb (lookup_mem e)).1
      · cases hl
    have : (compCx X (inNames scope.names) scope cl C s H fp).env.scope.names.lookup x = some .local := by rw [comp_kind,hloc]; rfl
    exact ⟨.inl this,.inr this⟩
  have pel : ∀ cl C s H fp,PE (compCx X (inNames scope.names) scope cl C s H fp) elt (tE T W EN el) := fun cl C s H fp => (ihIn cl C s H fp _ _ hel).pe
  have ht' : ∃ tt,(∀ cl C s H fp,PTs (compCx X (inNames scope.names) scope cl C s H fp) gn.ifs tt) ∧ DenTst T W tt tst := by
    generalize gn.ifs = l at htst ⊢
    unfold trIfs at htst
    split at htst
    · cases htst; exact ⟨_,fun _ _ _ _ _ => pts_nil,denTst_none⟩
    · obtain ⟨y,hy,e⟩ := mapI htst
      rw [← e]
      exact ⟨_,fun cl C s H fp => pts_one (ihIn cl C s H fp _ _ hy).pt,denTst_some⟩
    · cases htst
  obtain ⟨tt,ptt,dtt⟩ := ht'
  clear htst hel ihIn hb hk hnd nd
  rcases altK h5 with ⟨as,hr,h6⟩ | h6
  · obtain ⟨p,pos',e0,hg⟩ := range_of hr
    obtain ⟨i,hi,h7⟩ := bndI h6
    have et := nameT_eq hi
    subst et
    have hoff := off i (by simp [tgSlots])
    rw [e0]
    rcases altK h7 with ⟨a,ha,h8⟩ | h8
    · rw [oneOf_eq ha]
      obtain ⟨y,hy,ex⟩ := mapI h8
      rw [← ex]
      clear h5 h6 h7 h8 hr e0 ha ex
      have hst := (ih _ _ hy).star
      obtain ⟨ta,pa,da⟩ := sndA_cons hst (ih _ _ hy).snd (sndA_nil (T:=T) (W:=W) (X:=X) (E:=E))
      exact lc_parts O S pg ptt pel (pi_range1 (O.gl _ hg) (O.blt _ (by decide +kernel)) pa (hst _ _)) (fun _ => rfl) (den_compR1 inj hoff dtt da)
    · obtain ⟨q,hq,h9⟩ := bndI h8
      obtain ⟨y,hy,h10⟩ := bndI h9
      obtain ⟨z,hz,ex⟩ := mapI h10
      rw [twoOf_eq hq,← ex]
      clear h5 h6 h7 h8 h9 h10 hr e0 hq ex
      have hst := (ih _ _ hy).star
      have hst' := (ih _ _ hz).star
      obtain ⟨ta,pa,da⟩ := sndA_cons hst (ih _ _ hy).snd (sndA_cons hst' (ih _ _ hz).snd (sndA_nil (T:=T) (W:=W) (X:=X) (E:=E)))
      exact lc_parts O S pg ptt pel (pi_range2 (O.gl _ hg) (O.blt _ (by decide +kernel)) pa (by rw [hst,hst']; rfl) (hst' _ _)) (fun _ => rfl) (den_compR2 inj hoff dtt da)
  clear h5
  obtain ⟨s,hs,ex⟩ := mapI h6
  rw [← ex]
  obtain ⟨ts,ps,dsn⟩ := (ih _ _ hs).snd
  exact lc_parts O S pg ptt pel (pi_listZ ps) (fun v => (ih _ _ hs).fold _ v) (den_compL O.hK inj off tok dtt dsn)
end
theorem gd_comp {T : Tx} {W : Wd} {cm : Bool} {k : Nat} {X : Cx} {N : List Str} {sc : List (Str × NameKind)} {E : XK} {x : Ex} {go : Go} (O : XOk T W cm k X N sc E) (ih : ∀ e x,go e = some x → Gd T W X E e x) {goIn : List Str → List (Str × NameKind) → Go} {scope : Scope}
    (ihIn : ∀ cl C s H fp e x,goIn (inNames scope.names) scope.names e = some x → Gd T W (compCx X (inNames scope.names) scope cl C s H fp) EN e x)
    {elt : Expr} {gens : List Comprehension} {pos : Pos} (h : trComp cm go goIn N sc elt scope gens = some x) : Gd T W X E (.ListComp elt gens scope pos) x := by
  obtain ⟨t,p,q,_⟩ := comp_parts (pos:=pos) O ih ihIn h
  exact gd_val ⟨t,p,q⟩ (fun _ => rfl) (fun _ _ => rfl) (fun _ => rfl) (fun _ _ => rfl) (fun _ _ => rfl)
theorem strOf_eq {a : Expr} {x : Str} (h : strOf a = some x) : ∃ j p,a = .Constant (.str x) j p := by
  obtain ⟨q,_,h'⟩ := bndI h
  have e := q.2
  cases hc : q.1.1 with
  | str y => rw [hc] at e h'; cases h'; exact ⟨_,_,e⟩
  | _ => rw [hc] at h'; cases h'
theorem fvOf_eq {sc : List (Str × NameKind)} {a : Expr} {x : Str} (h : fvOf sc a = some x) : ∃ p q,a = .FormattedValue (.Name x p) (-1) none q ∧ isGl sc x = true := by
  obtain ⟨q,_,h'⟩ := bndI h
  obtain ⟨y,hy,h'⟩ := bndI h'
  obtain ⟨hc,h'⟩ := iteN h'
  cases h'
  simp only [Bool.and_eq_true,decide_eq_true_eq] at hc
  obtain ⟨p,e1⟩ := nameOf_eq hy
  have e := q.2
  rw [e1,hc.1,Option.isNone_iff_eq_none.mp hc.2.2] at e
  exact ⟨p,_,e,hc.2.1⟩
theorem gd_fstr {T : Tx} {W : Wd} {cm : Bool} {k : Nat} {X : Cx} {N : List Str} {sc : List (Str × NameKind)} {E : XK} {x : Ex} (O : XOk T W cm k X N sc E) {vs : List Expr} {pos : Pos} (h : trF sc vs = some x) : Gd T W X E (.JoinedStr vs pos) x := by
  refine gd_val ?_ (fun _ => rfl) (fun _ _ => rfl) (fun _ => rfl) (fun _ _ => rfl) (fun _ _ => rfl)
  unfold trF at h
  split at h
  · rename_i a m b
    split at h
    · rename_i xa g xb h1 h2 h3
      cases h
      obtain ⟨j1,p1,rfl⟩ := strOf_eq h1
      obtain ⟨j2,p2,rfl⟩ := strOf_eq h3
      obtain ⟨p3,p4,rfl,hg⟩ := fvOf_eq h2
      cases e : W.glob g with
      | none => exact ⟨fun _ _ _ => False,fun _ _ _ _ _ _ q => q.elim,fun Γ G ρ σ H r Q he h hp => by (conv at he => lhs; whnf); rw [e] at he; cases he⟩
      | some i =>
        obtain ⟨t,hm⟩ := O.glob g i e
        by_cases hz : i.natAbs < 1000000 ∧ (((Str.empty ++ xa) ++ (toString i : String)) ++ xb).length ≤ 100000 ∧ ((Str.empty ++ xa) ++ (toString i : String)).length ≤ 100000 ∧ (Str.empty ++ xa).length ≤ 100000
        · refine ⟨fun σ H Q => Q (.str (((Str.empty ++ xa) ++ (toString i : String)) ++ xb)) H,fun pins s σ H Q I h => ?_,fun Γ G ρ σ H r Q he h hp => ?_⟩
          · refine JoinedStr_many ?_
            show wpAny _ _ (joinParts Str.empty [eval (.Constant (.str xa) j1 p1) X.env,eval (.FormattedValue (.Name g p3) (-1) none p4) X.env,eval (.Constant (.str xb) j2 p2) X.env]) _ _ s
            obtain ⟨z1,z2,z3,z4⟩ := hz
            have big : (100000 : Nat) ≤ sizeLine := by decide
            refine joinParts_cons (Calls.Constant_str ⟨Nat.le_trans z4 big,?_⟩)
            refine joinParts_cons (FormattedValue_plain (ld_glob (I.tok _) (O.gl _ hg) hm ?_ (gl_ok hg).1))
            refine formatField_int_small ?_ ⟨Nat.le_trans z3 big,?_⟩
            · rcases Nat.eq_zero_or_pos i.natAbs with q | q
              · rw [q]; decide
              · exact (Nat.log2_lt (by lia)).mpr (Nat.lt_of_lt_of_le z1 (Nat.le_trans (show 1000000 ≤ 2 ^ 20 by decide) (Nat.pow_le_pow_right (by decide) (by decide))))
            refine joinParts_cons (Calls.Constant_str ⟨Nat.le_trans z2 big,?_⟩)
            exact joinParts_nil ⟨.str _,H,(((I.tok _).tok _).tok _).tok _,⟨_,rfl⟩,h⟩ (Nat.le_trans z2 big)
          · (conv at he => lhs; whnf); rw [e] at he; dsimp only at he
            rw [if_pos hz] at he
            cases he
            exact hp _ H (Same.refl _) rfl
        · exact ⟨fun _ _ _ => False,fun _ _ _ _ _ _ q => q.elim,fun Γ G ρ σ H r Q he h hp => by (conv at he => lhs; whnf); rw [e] at he; dsimp only at he; rw [if_neg hz] at he; cases he⟩
    · cases h
  · cases h
theorem gd_E {T : Tx} {W : Wd} {cm : Bool} {k : Nat} : ∀ (n : Nat) {X : Cx} {N : List Str} {sc : List (Str × NameKind)} {E : XK} (O : XOk T W cm k X N sc E) (e : Expr) (x : Ex),trE cm n N sc e = some x → Gd T W X E e x := by
  intro n
  induction n with
  | zero => intro X N sc E O e x h; cases h
  | succ n ihn =>
    intro X N sc E O e x h
    have ih := fun e x => ihn O e x
    rw [trE_succ] at h
    rcases altI h with ⟨q,h'⟩ | h'
    · rw [q.2]; exact gd_name O h'
    clear h
    rcases altI h' with ⟨q,h⟩ | h
    · rw [q.2]; exact gd_const h
    clear h'
    rcases altI h with ⟨q,h'⟩ | h'
    · rw [q.2]; exact gd_un h' fun y hy => ih _ _ hy
    clear h
    rcases altI h' with ⟨q,h⟩ | h
    · obtain ⟨o,h1,h⟩ := bndI h
      obtain ⟨x1,h2,h⟩ := bndI h
      obtain ⟨x2,h3,rfl⟩ := mapI h
      rw [q.2]; exact gd_bin h1 (ih _ _ h2) (ih _ _ h3)
    clear h'
    rcases altI h with ⟨q,h'⟩ | h'
    · rw [q.2]; exact gd_cmp O ih h'
    clear h
    rcases altI h' with ⟨q,h⟩ | h
    · obtain ⟨p1,p2⟩ := gd_bool (pos:=q.1.2.2) ih h
      rw [q.2]; exact ⟨p1.pe,p2.tst.pt,fun _ _ => rfl,fun _ => rfl,fun _ _ => rfl,fun _ _ => rfl⟩
    clear h'
    rcases altI h with ⟨q,h'⟩ | h'
    · obtain ⟨x1,h1,h'⟩ := bndI h'
      obtain ⟨x2,h2,h'⟩ := bndI h'
      obtain ⟨x3,h3,rfl⟩ := mapI h'
      rw [q.2]; exact gd_ifx (ih _ _ h1) (ih _ _ h2) (ih _ _ h3)
    clear h
    rcases altI h' with ⟨q,h⟩ | h
    · rw [q.2]; exact gd_sub O ih h
    clear h'
    rcases altI h with ⟨q,h'⟩ | h'
    · rw [q.2]; exact gd_attr O ih h'
    clear h
    rcases altI h' with ⟨q,h⟩ | h
    · obtain ⟨xs,hs,rfl⟩ := mapI h
      rw [q.2]; exact gd_lst ih hs
    clear h'
    rcases altI h with ⟨q,h'⟩ | h'
    · obtain ⟨xs,hs,rfl⟩ := mapI h'
      rw [q.2]; exact gd_tup ih hs
    clear h
    rcases altI h' with ⟨q,h⟩ | h
    · rw [q.2]; exact gd_comp O ih (fun cl C s H fp e x hh => ihn (xok_comp O) e x hh) h
    clear h'
    rcases altI h with ⟨q,h'⟩ | h'
    · obtain ⟨hk,h'⟩ := iteN h'
      rw [q.2,emp_eq hk]; exact gd_call O ih h'
    clear h
    obtain ⟨q,_,h⟩ := bndI h'
    rw [q.2]; exact gd_fstr O h
end Ev
set_option Elab.async false
set_option maxRecDepth 100000
set_option maxHeartbeats 1000000
namespace Ev
open PySem L2
def retC (Γ : Ctx) : Tag → Addr → Prop
  | .new => fun b => Γ.H0 b = none
  | .cl .fl => fun b => Γ.H0 b = none ∨ Γ.P b
  | _ => fun _ => True
def PostS (T : Tx) (E : XK) (Γ : Ctx) (G : List Gh) (K : Ends) : Out → Prop
  | .nx ρ' => ∀ (Γ' : Ctx) (σ' : St) (H' : Hp),Γ'.H0 = Γ.H0 → Γ'.P = Γ.P → EnvOk T Γ' G ρ' σ' H' → K.nx σ' H'
  | .rt d t => ∀ v H',Same Γ.H0 H' → Rep T H' (retC Γ t) d v → K.rt v H'
  | .exc c => ∀ H',Same Γ.H0 H' → E (T.cv c) none H'
def DenS (T : Tx) (W : Wd) (E : XK) (t : TS) (s : Sx) : Prop := ∀ (Γ : Ctx) (G : List Gh) (ρ : Env) (σ : St) (H : Hp) (o : Out) (K : Ends),evS W ρ s = some o → EnvOk T Γ G ρ σ H → PostS T E Γ G K o → t K σ H
def DenSs (T : Tx) (W : Wd) (E : XK) (t : TS) (s : List Sx) : Prop := ∀ (Γ : Ctx) (G : List Gh) (ρ : Env) (σ : St) (H : Hp) (o : Out) (K : Ends),evSs W ρ s = some o → EnvOk T Γ G ρ σ H → PostS T E Γ G K o → t K σ H
def SndS (T : Tx) (W : Wd) (X : Cx) (E : XK) (st : Stmt) (s : Sx) : Prop := ∃ t,PS X st t ∧ DenS T W E t s
def SndSs (T : Tx) (W : Wd) (X : Cx) (E : XK) (st : List Stmt) (s : List Sx) : Prop := ∃ t,PSs X st t ∧ DenSs T W E t s
section
variable {T : Tx} {W : Wd} {X : Cx} {E : XK} {Γ Γ' : Ctx} {G : List Gh} {ρ ρ1 : Env} {σ σ1 : St} {H H1 H2 H' : Hp} {C C' : Addr → Prop} {K : Ends} {o : Out} {d x y : D} {t u : Tag} {v w vx vy : V} {b : Bool} {ds : List D} {ts : List Tag} {vs xs : List V} {c c' : Cl}
theorem PostS.ctx (h0 : Γ'.H0 = Γ.H0) (hP : Γ'.P = Γ.P) (h : PostS T E Γ G K o) : PostS T E Γ' G K o := by
  cases o with
  | nx ρ' => exact fun Γ'' σ' H' e1 e2 q => h Γ'' σ' H' (e1.trans h0) (e2.trans hP) q
  | rt d t =>
    refine fun v H' s r => h v H' (h0 ▸ s) (r.imp fun b z => ?_)
    cases t with
    | new => exact (show Γ.H0 b = none by rw [← h0]; exact z)
    | cl c => cases c with
      | fl => exact (show Γ.H0 b = none ∨ Γ.P b by rw [← h0,← hP]; exact z)
      | old => trivial
      | dp => trivial
    | own c => trivial
  | exc c => exact fun H' s => h H' (h0 ▸ s)
theorem Den.stepS {ta : TE} {xa : Ex} (ha : Den T W E ta xa) {k : D → Tag → Option Out} (hk : bindO (evE W ρ xa) k = some o) (h : EnvOk T Γ G ρ σ H) (hp : PostS T E Γ G K o) {Q' : VK}
    (cont : ∀ d t v H1,k d t = some o → Same H H1 → ROk T Γ H H1 d t v → EnvOk T Γ G ρ σ H1 → Q' v H1) : ta σ H Q' := by
  cases e : evE W ρ xa with
  | none => rw [e] at hk; cases hk
  | some r1 =>
    rw [e] at hk
    cases r1 with
    | exc c =>
      have z : o = .exc c := (Option.some.inj hk).symm
      subst z
      exact ha Γ G ρ σ H _ _ e h fun H' s => hp H' (h.same.trans s)
    | ok d t => exact ha Γ G ρ σ H _ _ e h fun v H' s q => cont d t v H' hk s q (h.mono s)
theorem DenT.stepS {ta : TT} {xa : Ex} (ha : DenT T W E ta xa) {k : D → Tag → Option Out} (hk : bindO (evE W ρ xa) k = some o) (kb : ∀ d t o,k d t = some o → ∃ b,d = .bl b) (h : EnvOk T Γ G ρ σ H) (hp : PostS T E Γ G K o) {Q' : Bool → Hp → Prop}
    (cont : ∀ b t H1,k (.bl b) t = some o → Same H H1 → EnvOk T Γ G ρ σ H1 → Q' b H1) : ta σ H Q' := by
  cases e : evE W ρ xa with
  | none => rw [e] at hk; cases hk
  | some r1 =>
    rw [e] at hk
    cases r1 with
    | exc c =>
      have z : o = .exc c := (Option.some.inj hk).symm
      subst z
      exact ha Γ G ρ σ H _ _ e trivial h fun H' s => hp H' (h.same.trans s)
    | ok d t =>
      obtain ⟨b,rfl⟩ := kb _ _ _ hk
      exact ha Γ G ρ σ H _ _ e ⟨b,rfl⟩ h fun b' H' eb s => by cases eb; exact cont b t H' hk s (h.mono s)
theorem EnvOk.ownv {i : Nat} {a : Addr} (h : EnvOk T Γ G ρ σ H) (s : Same H H1) (ha : H a = none) (ha1 : H1 a = some (.lst xs)) (hl : lfs ds = true) (rs : Reps T H1 C ds xs) :
    EnvOk T { Γ with O := fun b => Γ.O b ∨ b = a } G (ρ.set i (some ⟨.lst ds,true,.fl⟩)) (σ.set i (some (.ref a))) H1 := by
  have up : ∀ {c : Cl} {b : Addr},Cond Γ c b ∧ H b ≠ none → Cond { Γ with O := fun b => Γ.O b ∨ b = a } c b := fun z => ⟨fun q => q.elim z.1.1 fun e => z.2 (by rw [e]; exact ha),z.1.2⟩
  have rup : ∀ {c : Cl} {d : D} {v : V},Rep T H (Cond Γ c) d v → Rep T H1 (Cond { Γ with O := fun b => Γ.O b ∨ b = a } c) d v := fun q => ((Rep.dom _ _ q).imp fun b z => up z).same s
  have rsup : ∀ {c : Cl} {ds : List D} {vs : List V},Reps T H (Cond Γ c) ds vs → Reps T H1 (Cond { Γ with O := fun b => Γ.O b ∨ b = a } c) ds vs := fun q => ((Reps.dom _ _ q).imp fun b z => up z).same s
  have ent : ∀ (j : Nat) (e : Ent),ρ[j]? = some (some e) → ∃ v,σ[j]? = some (some v) ∧ EntOk T { Γ with O := fun b => Γ.O b ∨ b = a } H1 e v := fun j e q => by
    obtain ⟨v,h1,h2⟩ := h.ent j e q
    refine ⟨v,h1,fun z y => ?_,fun z y => (h2.2.1 z y).same s,fun z => rup (h2.2.2 z)⟩
    obtain ⟨a',xs',ds',k1,k2,k3,k3',k4,k5⟩ := h2.1 z y
    exact ⟨a',xs',ds',k1,k2,.inl k3,k3',s _ _ k4,rsup k5⟩
  refine ⟨h.same.trans s,fun b z => ?_,fun b z => .inl (h.deep b z),fun j e q => ?_,fun j k e e' ne q q' o o' n n' => ?_,fun g z => ?_,by simp [h.len]⟩
  rotate_left 3
  · have q := h.gh g z
    cases g with
    | val c d v => exact rup q
    | «at» a' xs' => exact ⟨s _ _ q.1,fun z => z.elim q.2 fun e => by subst e; have q1 := q.1; rw [ha] at q1; cases q1⟩
  · rcases z with z | rfl
    · exact ⟨(h.own b z).1,some_of_ne s (h.own b z).2⟩
    · exact ⟨h.same.free ha,by rw [ha1]; exact fun z => nomatch z⟩
  · by_cases hj : i = j
    · subst hj
      have hi : i < ρ.length := by have := (List.getElem?_eq_some_iff.mp q).1; simpa using this
      rw [List.getElem?_set_self hi] at q
      cases q
      exact ⟨.ref a,by rw [List.getElem?_set_self (by rw [h.len]; exact hi)],⟨fun _ _ => ⟨a,xs,ds,rfl,rfl,.inr rfl,fun z => (h.own _ (h.deep _ z)).2 ha,ha1,Reps.free ds xs hl rs⟩,fun _ z => (by cases z),fun z => (by cases z)⟩⟩
    · rw [List.getElem?_set_ne hj] at q ⊢
      exact ent j e q
  · have key : ∀ (j : Nat) (e : Ent),i ≠ j → ρ[j]? = some (some e) → e.own = true → e.c ≠ .dp → σ[j]? ≠ some (some (.ref a)) := fun j e nj q o n z => by
      obtain ⟨v,h1,h2⟩ := h.ent j e q
      obtain ⟨a',xs',ds',k1,k2,k3,_,k4,k5⟩ := h2.1 o n
      rw [h1,k2] at z
      cases z
      rw [ha] at k4; cases k4
    by_cases hj : i = j
    · subst hj
      have hk : i ≠ k := ne
      rw [List.getElem?_set_ne hk] at q' ⊢
      have hi : i < ρ.length := by have := (List.getElem?_eq_some_iff.mp q).1; simpa using this
      rw [List.getElem?_set_self (by rw [h.len]; exact hi)]
      exact fun z => key k e' hk q' o' n' z.symm
    · rw [List.getElem?_set_ne hj] at q ⊢
      by_cases hk : i = k
      · subst hk
        have hi : i < ρ.length := by have := (List.getElem?_eq_some_iff.mp q').1; simpa using this
        rw [List.getElem?_set_self (by rw [h.len]; exact hi)]
        exact key j e hj q o n
      · rw [List.getElem?_set_ne hk] at q' ⊢
        exact h.inj j k e e' ne q q' o o' n n'
theorem EnvOk.wr {i : Nat} {es : List D} {ys : List V} {a : Addr} (h : EnvOk T Γ G ρ σ H) (hi : ρ[i]? = some (some ⟨.lst ds,true,c⟩)) (hv : σ[i]? = some (some (.ref a))) (ha : H a = some (.lst xs)) (hO : Γ.O a) (hS : ¬ Γ.S a) (hc : c ≠ .dp) (hc' : c' ≠ .dp) (rs : Reps T H (Cond Γ c') es ys) :
    EnvOk T Γ G (ρ.set i (some ⟨.lst es,true,c'⟩)) σ (L2.upd H a (.lst ys)) := by
  have ne : ∀ {c : Cl} (b : Addr),Cond Γ c b → b ≠ a := fun b z e => z.1 (e ▸ hO)
  have hil : i < ρ.length := (List.getElem?_eq_some_iff.mp hi).1
  refine ⟨fun b o q => ?_,fun b z => ⟨(h.own b z).1,?_⟩,h.deep,fun j e q => ?_,fun j k e e' nj q q' o o' n n' => ?_,fun g z => (by have q := h.gh g z; cases g with | val c d v => exact q.upd ha fun b => ne b | «at» a' xs' => exact ⟨by rw [upd_ne (show a' ≠ a from fun e => q.2 (by rw [e]; exact hO))]; exact q.1,q.2⟩),by simp [h.len]⟩
  · have nb : b ≠ a := fun e => by subst e; rw [(h.own _ hO).1] at q; cases q
    rw [upd_ne nb]; exact h.same b o q
  · by_cases e : b = a
    · subst e; rw [upd_same]; exact fun z => nomatch z
    · rw [upd_ne e]; exact (h.own b z).2
  · by_cases hj : i = j
    · subst hj
      rw [List.getElem?_set_self hil] at q
      cases q
      exact ⟨.ref a,hv,⟨fun _ _ => ⟨a,ys,es,rfl,rfl,hO,hS,upd_same,rs.upd ha fun b => ne b⟩,fun _ z => absurd z hc',fun z => (by cases z)⟩⟩
    · rw [List.getElem?_set_ne hj] at q
      obtain ⟨v',h1,h2⟩ := h.ent j e q
      refine ⟨v',h1,fun z y => ?_,fun z y => (h2.2.1 z y).upd ha fun b zb e => hS (e ▸ zb),fun z => (h2.2.2 z).upd ha fun b => ne b⟩
      obtain ⟨a',xs',ds',m1,m2,m3,m3',m4,m5⟩ := h2.1 z y
      have na : a' ≠ a := fun e' => by
        subst e'
        exact h.inj i j _ e hj hi q rfl z hc y (by rw [hv,h1,m2])
      exact ⟨a',xs',ds',m1,m2,m3,m3',by rw [upd_ne na]; exact m4,m5.upd ha fun b => ne b⟩
  · have ent' : ∀ (m : Nat) (e : Ent),(ρ.set i (some ⟨.lst es,true,c'⟩))[m]? = some (some e) → e.own = true → e.c ≠ .dp → ∃ e0 : Ent,ρ[m]? = some (some e0) ∧ e0.own = true ∧ e0.c ≠ .dp := fun m e q o n => by
      by_cases hm : i = m
      · subst hm; exact ⟨_,hi,rfl,hc⟩
      · rw [List.getElem?_set_ne hm] at q; exact ⟨e,q,o,n⟩
    obtain ⟨e1,q1,o1,n1⟩ := ent' j e q o n
    obtain ⟨e2,q2,o2,n2⟩ := ent' k e' q' o' n'
    exact h.inj j k e1 e2 nj q1 q2 o1 o2 n1 n2
theorem EnvOk.ownAt {i : Nat} (h : EnvOk T Γ G ρ σ H) (hi : ρ[i]? = some (some ⟨.lst ds,true,c⟩)) : ∃ a xs,σ[i]? = some (some (.ref a)) ∧ Γ.O a ∧ H a = some (.lst xs) ∧ Reps T H (TCc Γ c) ds xs ∧ (c ≠ .dp → ¬ Γ.S a) := by
  obtain ⟨v,h1,h2⟩ := h.ent i _ hi
  by_cases hc : c = .dp
  · obtain ⟨a,xs,k2,k3,k4,k5⟩ := (h2.2.1 rfl hc).1 _ rfl
    exact ⟨a,xs,by rw [h1,k2],h.deep _ k3,k4,k5.imp fun b _ => .inl hc,fun z => absurd hc z⟩
  · obtain ⟨a,xs,ds',k1,k2,k3,k3',k4,k5⟩ := h2.1 rfl hc
    cases k1
    exact ⟨a,xs,by rw [h1,k2],k3,k4,k5.imp fun b z => .inr z,fun _ => k3'⟩
theorem tagC_ok (h : EnvOk T Γ G ρ σ H) {t : Tag} (ht : tagC c t = some c') : (∀ b,TCc Γ c b → Cond Γ c' b) ∧ (∀ b,TC Γ H t b → Cond Γ c' b) ∧ (∀ k,t ≠ .own k) ∧ c ≠ .dp ∧ c' ≠ .dp := by
  have hc : c ≠ .dp := fun z => by subst z; cases ht
  have ht' : tagC0 c t = some c' := by cases c with | dp => cases ht | _ => exact ht
  cases t with
  | new => cases ht'; exact ⟨fun b z => z.cond hc,fun b z => h.fresh z,(fun k z => nomatch z),hc,hc⟩
  | cl e =>
    have he : e ≠ .dp := fun z => by subst z; cases ht'
    have hj : c' = c.join e := by cases e with | dp => exact absurd rfl he | _ => exact (Option.some.inj ht').symm
    have hc' : c' ≠ .dp := by subst hj; cases c <;> cases e <;> first | exact absurd rfl hc | exact absurd rfl he | exact (fun z => nomatch z)
    subst hj
    exact ⟨fun b z => z.join_l.cond hc',fun b z => (TCc.join_r (show TCc Γ e b from z)).cond hc',(fun k z => nomatch z),hc,hc'⟩
  | own e => cases ht'
end
end Ev
set_option Elab.async false
set_option maxRecDepth 100000
set_option maxHeartbeats 1000000
namespace Ev
open PySem L2
structure SOk (T : Tx) (W : Wd) (cm : Bool) (k : Nat) (X : Cx) (N : List Str) (sc : List (Str × NameKind)) (E : XK) : Prop where
  x : XOk T W cm k X N sc E
  nd : N.Nodup
  loc : ∀ x,isLoc sc x = true → Loc X.env.scope x ∧ (X.fn x = true ∨ X.env.scope.names.lookup x = some .local)
  locs : ∀ x,kindIn sc x = some .local → X.env.scope.names.lookup x = some .local
  kindF : X.env.scope.kind = .function
  raises : Raises X E
  xcls : ∀ c,W.exn c = true → ∃ C,T.cv c = .ref C ∧ XCls X.K X.mg c C
def tSs (T : Tx) (W : Wd) (E : XK) (s : List Sx) : TS := fun K σ H => ∃ (Γ : Ctx) (G : List Gh) (ρ : Env) (o : Out),evSs W ρ s = some o ∧ EnvOk T Γ G ρ σ H ∧ PostS T E Γ G K o
section
variable {T : Tx} {W : Wd} {cm : Bool} {k : Nat} {X : Cx} {N : List Str} {sc : List (Str × NameKind)} {E : XK} {Γ Γ' : Ctx} {G : List Gh} {ρ ρ1 : Env} {σ σ1 : St} {H H1 H2 H' : Hp} {C C' : Addr → Prop} {K : Ends} {o : Out} {d : D} {t u : Tag} {v w vx vy : V} {ds : List D} {ts : List Tag} {vs xs : List V} {c c' : Cl} {x y z : Ex} {e a b : Expr} {go : Go} {mu : List Str}
theorem SndSs.pss {st : List Stmt} {s : List Sx} (h : SndSs T W X E st s) : PSs X st (tSs T W E s) := by
  obtain ⟨t,p,q⟩ := h
  exact fun pins s σ H K I ⟨Γ,G,ρ,o,h1,h2,h3⟩ => p pins s σ H K I (q Γ G ρ σ H o K h1 h2 h3)
theorem sndSs_nil : SndSs T W X E [] [] := ⟨_,pss_nil,fun Γ G ρ σ H o K he h hp => by cases he; exact hp Γ σ H rfl rfl h⟩
theorem sndSs_cons {st : Stmt} {sts : List Stmt} {s : Sx} {ss : List Sx} (h1 : SndS T W X E st s) (h2 : SndSs T W X E sts ss) : SndSs T W X E (st :: sts) (s :: ss) := by
  obtain ⟨t,p,q⟩ := h1
  obtain ⟨u,p2,q2⟩ := h2
  refine ⟨_,pss_cons p p2,fun Γ G ρ σ H o K he h hp => ?_⟩
  conv at he => lhs; whnf
  show t { K with nx := u K } σ H
  cases e : evS W ρ s with
  | none => rw [e] at he; cases he
  | some o1 =>
    rw [e] at he
    cases o1 with
    | nx ρ1 => exact q Γ G ρ σ H _ _ e h fun Γ' σ' H' e1 e2 h' => q2 Γ' G ρ1 σ' H' o K he h' (hp.ctx e1 e2)
    | rt d t => cases he; exact q Γ G ρ σ H _ _ e h hp
    | exc c => cases he; exact q Γ G ρ σ H _ _ e h hp
theorem snd_exprS (hc : isComp e = false) (he : Gd T W X E e x) {pos : Pos} : SndS T W X E (.Expr e pos) (.expr x) := by
  obtain ⟨te,pe,de⟩ := he.snd
  have hs : swapsWith e none pos.line X.env = pure false := by cases e <;> first | rfl | cases hc
  refine ⟨_,ps_expr pe hs,fun Γ G ρ σ H o K he h hp => ?_⟩
  conv at he => lhs; whnf
  refine de.stepS he h hp fun d t v H1 hk s ok h1 => ?_
  cases hk
  exact hp Γ σ H1 rfl rfl h1
theorem ret_ok {S : Addr → Prop} (h : EnvOk T Γ G ρ σ H) (ok : ROk T { Γ with O := fun _ => False,S := S } H H1 d t v) : Rep T H1 (retC Γ (Ev.rt d t)) d v := by
  have ok' := ok.rt
  cases ht : Ev.rt d t with
  | new => rw [ht] at ok'; exact Rep.imp (fun b z => h.same.free z) ok'
  | cl c =>
    rw [ht] at ok'
    cases c with
    | fl => exact Rep.imp (fun b z => (z.resolve_left (fun e => nomatch e)).2 rfl) ok'
    | old => exact ok.any
    | dp => exact ok.any
  | own c => exact ok.any
theorem snd_ret (he : Gd T W X E e x) {pos : Pos} : SndS T W X E (.Return (some e) pos) (.ret x) := by
  obtain ⟨te,pe,de⟩ := he.snd
  refine ⟨_,ps_ret pe,fun Γ G ρ σ H o K he h hp => ?_⟩
  conv at he => lhs; whnf
  have h0 := h.disownAll
  have hp0 : PostS T E { Γ with O := fun _ => False,S := fun _ => False } G K o := hp.ctx rfl rfl
  refine de.stepS he h0 hp0 fun d t v H1 hk s ok h1 => ?_
  cases hk
  exact hp v H1 (h.same.trans s) (ret_ok h ok)
theorem snd_pass {pos : Pos} : SndS T W X E (.Pass pos) .pass := ⟨_,ps_pass,fun Γ G ρ σ H o K he h hp => by cases he; exact hp Γ σ H rfl rfl h⟩
theorem snd_ifs {c : Expr} {bt be : List Stmt} {st se : List Sx} {pos : Pos} (hc : Gd T W X E c x) (ht : SndSs T W X E bt st) (he : SndSs T W X E be se) : SndS T W X E (.If c bt be pos) (.ifs x st se) := by
  obtain ⟨tc,pc,dc⟩ := hc.tst
  obtain ⟨tt,pt,dt⟩ := ht
  obtain ⟨te,pe,de⟩ := he
  refine ⟨_,ps_if pc pt pe,fun Γ G ρ σ H o K he h hp => ?_⟩
  conv at he => lhs; whnf
  refine dc.stepS he (fun d t o z => by split at z <;> first | exact ⟨_,rfl⟩ | cases z) h hp fun b t H1 hk s h1 => ?_
  cases b with
  | true => rw [if_pos rfl]; exact dt Γ G ρ σ H1 o K hk h1 hp
  | false => rw [if_neg Bool.false_ne_true]; exact de Γ G ρ σ H1 o K hk h1 hp
theorem snd_raise (O : SOk T W true k X N sc E) {x' : Str} {p cpos pos : Pos} (hg : isGl sc x' = true) (he : Gd T W X E e x) : SndS T W X E (.Raise (some (.Call (.Name x' p) [e] [] cpos)) none pos) (.raise x' x) := by
  cases hx : W.exn x' with
  | false => exact ⟨fun _ _ _ => False,fun _ _ _ _ _ _ q => q.elim,fun Γ G ρ σ H o K he h hp => by replace he : (if W.exn x' = true then bindO (evE W ρ x) _ else none) = some o := he; rw [hx,if_neg Bool.false_ne_true] at he; cases he⟩
  | true =>
    obtain ⟨CA,hcv,xc⟩ := O.xcls x' hx
    obtain ⟨te,pe,de⟩ := he.snd
    have hst := he.star
    refine ⟨_,ps_raise O.raises (O.x.calm rfl) xc (O.x.gl _ hg) (pa_cons pe pa_nil (hst _ _)) (gl_ok hg).1 (hst _ _) rfl,fun Γ G ρ σ H o K he h hp => ?_⟩
    replace he : (if W.exn x' = true then bindO (evE W ρ x) _ else none) = some o := he
    rw [if_pos hx] at he
    refine de.stepS he h hp fun d t v H1 hk s ok h1 => ?_
    cases hk
    exact ⟨by show 1 ≤ sizeLine; decide,by have := hp H1 (h.same.trans s); rw [hcv] at this; exact this⟩
theorem den_asg {te : TE} {i : Nat} {m : Bool} (de : Den T W E te x) : DenS T W E (tAsg te (gName i)) (.asg i m x) := fun Γ G ρ σ H o K he h hp => by
  conv at he => lhs; whnf
  refine de.stepS he h hp fun d t v H1 hk s ok h1 => ?_
  show K.nx (σ.set i (some v)) H1
  cases t with
  | new =>
    have plain : ∀ {d : D},ROk T Γ H H1 d .new v → EnvOk T Γ G (ρ.set i (some ⟨d,false,.fl⟩)) (σ.set i (some v)) H1 := fun ok => h1.setv (Rep.imp (fun b z => h.fresh z) ok)
    cases d with
    | lst ds =>
      cases hk
      cases hm : (m && lfs ds) with
      | false => rw [hm] at hp; exact hp Γ _ H1 rfl rfl (plain ok)
      | true =>
        rw [hm] at hp
        rw [Bool.and_eq_true] at hm
        obtain ⟨p,xs,rfl,hp0,hp1,rs⟩ := ok
        exact hp { Γ with O := fun b => Γ.O b ∨ b = p } _ H1 rfl rfl (h.ownv s hp0 hp1 hm.2 rs)
    | _ => cases hk; exact hp Γ _ H1 rfl rfl (plain ok)
  | cl c =>
    have hc : c ≠ .dp := fun z => by subst z; cases hk
    have ho : o = .nx (ρ.set i (some ⟨d,false,c⟩)) := by cases c with | dp => cases hk | _ => exact (Option.some.inj hk).symm
    subst ho
    exact hp Γ _ H1 rfl rfl (h1.setv (Rep.imp (fun b z => z.cond hc) ok))
  | own c =>
    have hc : c ≠ .dp := fun z => by subst z; cases hk
    have ho : o = .nx ((disownAll ρ).set i (some ⟨d,false,c⟩)) := by cases c with | dp => cases hk | _ => exact (Option.some.inj hk).symm
    subst ho
    obtain ⟨p,xs,ds,rfl,rfl,hO,hp1,rs⟩ := ok
    refine hp { Γ with O := fun _ => False,S := fun _ => False } _ H1 rfl rfl (h1.disownAll.setv ?_)
    exact ⟨p,xs,rfl,⟨id,fun _ => .inl (h.own p hO).1⟩,hp1,rs.imp fun b z => ⟨id,(z.cond hc).2⟩⟩
theorem swaps_comp {elt : Expr} {gens : List Comprehension} {scope : Scope} {cpos p : Pos} {x' : Str} {line : Nat} {env : PySem.Env} :
    swapsWith (.ListComp elt gens scope cpos) (some (.Name x' p)) line env = pure (env.blockKind == .function && env.kindOf x' == some .local && p.line == (Expr.ListComp elt gens scope cpos).pos.line && !(scope.names.any fun (n,k) => n == x' && (k == .local || k == .cell))) := rfl
theorem snd_asgG (O : SOk T W cm k X N sc E) {x' : Str} {i : Nat} {sx : Sx} {p pos : Pos} (hden : ∀ te : TE,Den T W E te x → DenS T W E (tAsg te (gName i)) sx) (hl : isLoc sc x' = true) (hi : slot N x' = some i) (he : trE cm 30 N sc e = some x) : SndS T W X E (.Assign [.Name x' p] e pos) sx := by
  have hN : X.N.Nodup := by rw [O.x.hN]; exact O.nd
  have hix : X.N[i]? = some x' := by rw [O.x.hN]; exact slot_get hi
  have plain : swapsWith e (some (.Name x' p)) pos.line X.env = pure false → SndS T W X E (.Assign [.Name x' p] e pos) sx := fun hs => by
    obtain ⟨te,pe,de⟩ := (gd_E 30 O.x e x he).snd
    exact ⟨_,ps_set hN hix (O.loc _ hl).1 pe hs (O.loc _ hl).2,hden _ de⟩
  cases e with
  | ListComp elt gens scope cpos =>
    cases hb : (X.env.blockKind == .function && X.env.kindOf x' == some .local && p.line == (Expr.ListComp elt gens scope cpos).pos.line && !(scope.names.any fun (n,k) => n == x' && (k == .local || k == .cell))) with
    | false => exact plain (by rw [swaps_comp,hb])
    | true =>
      have he' : trComp cm (trE cm 29 N sc) (trE cm 29) N sc elt scope gens = some x := (trE_lc cm 29 N sc elt gens scope cpos).symm.trans he
      obtain ⟨t,pt,dt,ps⟩ := comp_parts (pos:=cpos) O.x (fun e x h => gd_E 29 O.x e x h) (fun cl C s H fp e x h => gd_E 29 (xok_comp O.x) e x h) he'
      have hloc : X.env.scope.names.lookup x' = some .local := by
        simp only [Bool.and_eq_true,beq_iff_eq] at hb
        exact hb.1.1.2
      exact ⟨_,ps hN hix hloc (by rw [swaps_comp,hb]),hden _ dt⟩
  | SetComp elt gens scope cpos => exact nomatch (trE_sc cm 29 N sc elt gens scope cpos).symm.trans he
  | DictComp key elt gens scope cpos => exact nomatch (trE_dc cm 29 N sc key elt gens scope cpos).symm.trans he
  | _ => exact plain rfl
theorem snd_asg (O : SOk T W cm k X N sc E) {x' : Str} {i : Nat} {m : Bool} {p pos : Pos} (hl : isLoc sc x' = true) (hi : slot N x' = some i) (he : trE cm 30 N sc e = some x) : SndS T W X E (.Assign [.Name x' p] e pos) (.asg i m x) := snd_asgG O (fun _ => den_asg) hl hi he
end
end Ev
set_option Elab.async false
set_option maxRecDepth 100000
set_option maxHeartbeats 1000000
namespace Ev
open PySem L2
section
variable {T : Tx} {W : Wd} {cm : Bool} {k : Nat} {X : Cx} {N : List Str} {sc : List (Str × NameKind)} {E : XK} {Γ Γ' : Ctx} {G : List Gh} {ρ ρ1 : Env} {σ σ1 : St} {H H1 H2 H' : Hp} {C C' : Addr → Prop} {K : Ends} {o : Out} {d : D} {t u : Tag} {v w vx vy : V} {ds : List D} {ts : List Tag} {vs xs : List V} {c c' : Cl} {x y z : Ex} {e a b : Expr} {go : Go} {mu : List Str}
def isTup : Expr → Bool
  | .Tuple _ _ _ => true
  | _ => false
theorem snd_unp (O : SOk T W true k X N sc E) {tt : List Expr} {m : Nat} {p pos : Pos} {i j : Nat} (ht : trTg N sc (.Tuple tt m p) = some (.tup [i,j])) (hn : isTup e = false) (he : Gd T W X E e x) : SndS T W X E (.Assign [.Tuple tt m p] e pos) (.unp [i,j] x) := by
  obtain ⟨te,pe,de⟩ := he.snd
  have pg := pg_of (X:=X) (T:=T) O.x.hK (O.x.calm rfl) O.x.hN O.nd O.loc ht
  have hs : swapsWithSole [.Tuple tt m p] e pos.line X.env = pure false := by cases e <;> rfl
  have hw : swappedStores [.Tuple tt m p] e X.env = pure none := by cases e <;> first | rfl | cases hn
  refine ⟨_,ps_asg pe pg hs hw rfl,fun Γ G ρ σ H o K he h hp => ?_⟩
  conv at he => lhs; whnf
  refine de.stepS he h hp fun d t v H1 hk s ok h1 => ?_
  split at hk
  · rename_i ds
    split at hk
    · cases hk
    · cases hk
    · rename_i no no'
      split at hk
      · rename_i ρ1 hset
        cases hk
        have hrep : Rep T H1 (TCc Γ (tagCl t)) (.tup ds) v := (ok.rep fun c z => no c z).imp fun b z => TC.weak h z
        have hb0 : bindT ρ t (.tup [i,j]) (.tup ds) = bindT0 ρ t (.tup [i,j]) (.tup ds) := by
          cases t with
          | new => rfl
          | cl c => cases c with
            | dp => exact absurd rfl no'
            | _ => rfl
          | own c => exact absurd rfl (no c)
        have hb : bindT ρ t (.tup [i,j]) (.tup ds) = some ρ1 := by
          rw [hb0]
          rcases ds with _ | ⟨a,_ | ⟨b,_ | ⟨c,r⟩⟩⟩
          · cases hset
          · cases hset
          · exact hset
          · cases hset
        exact tgOk_tup (T:=T) rfl h1 hrep hb fun σ1 h2 _ _ => hp Γ σ1 H1 rfl rfl h2
      · cases hk
  · cases hk
theorem blockF (O : SOk T W cm k X N sc E) : (X.env.blockKind != .function) = false := by
  unfold Env.blockKind
  rw [O.kindF]
  rfl
theorem nostar_any (env : PySem.Env) {es : List Expr} (h : ∀ e ∈ es,NoStar e) : (es.any fun | .Starred .. => true | _ => false) = false := by
  induction es with
  | nil => rfl
  | cons e r ih =>
    rw [List.any_cons,ih fun e he => h e (List.mem_cons_of_mem _ he),Bool.or_false]
    have q := h e List.mem_cons_self
    cases e <;> first | rfl | (have:=q [] env; simp only [starEach] at this; cases this)
theorem par2_stores {x1 x2 : Str} {p1 p2 pt pe : Pos} {m n : Nat} {env : PySem.Env} (hb : (env.blockKind != .function) = false) (k1 : env.kindOf x1 = some .local) (k2 : env.kindOf x2 = some .local) (hl : p2.line = p1.line) (hx : x2 ≠ x1)
    (hs : ([a,b].any fun | .Starred .. => true | _ => false) = false) (hf : [a,b].all (foldedForSure 8) = false) (hc : [a,b].all (constantsAlone 8) = false) :
    swappedStores [.Tuple [.Name x1 p1,.Name x2 p2] m pt] (.Tuple [a,b] n pe) env = pure (some [x1,x2]) := by
  unfold swappedStores
  have hd : [x1,x2].eraseDups.length = 2 := by
    have h1 : (x1 == x2) = false := by simpa using fun h => hx h.symm
    have h2 : (x2 == x1) = false := by simpa using hx
    simp [List.eraseDups_cons,h1,h2]
  have e1 : (Expr.Name x1 p1).pos = p1 := rfl
  simp [k1,k2,hb,hf,hc,hl,hd,e1]
  intro z
  exfalso
  simp only [List.any_cons,List.any_nil,Bool.or_false,Bool.or_eq_false_iff] at hs
  rcases z with z | z
  · exact Bool.noConfusion (hs.1.symm.trans z)
  · exact Bool.noConfusion (hs.2.symm.trans z)
theorem names_inv : ∀ {ts : List Expr} {nl : List (Str × Nat)},namesOf ts = some nl → ∃ ps : List Pos,ts = (nl.zip ps).map (fun q => Expr.Name q.1.1 q.2) ∧ ps.length = nl.length ∧ ∀ q ∈ nl.zip ps,q.2.line = q.1.2
  | [],nl,h => by cases h; exact ⟨[],rfl,rfl,fun q hq => by cases hq⟩
  | e :: ts,nl,h => by
    obtain ⟨⟨⟨x,p⟩,rfl⟩,_,h'⟩ := bndI h
    obtain ⟨l,hl,rfl⟩ := mapI h'
    obtain ⟨ps,e1,e2,e3⟩ := names_inv hl
    refine ⟨p :: ps,by rw [e1]; rfl,by simp [e2],fun r hr => ?_⟩
    rw [List.zip_cons_cons] at hr
    rcases List.mem_cons.mp hr with rfl | hr
    · rfl
    · exact e3 r hr
theorem trs_inv {α β : Type} {f : α → Option β} {a : α} {l : List α} {r : List β} (h : trs f (a :: l) = some r) : ∃ u s,f a = some u ∧ trs f l = some s ∧ r = u :: s := by
  unfold trs at h
  split at h
  · rename_i u s h1 h2; cases h; exact ⟨u,s,h1,h2,rfl⟩
  · cases h
theorem trs_len {α β : Type} {f : α → Option β} : ∀ {l : List α} {r : List β},trs f l = some r → r.length = l.length
  | [],r,h => by cases h; rfl
  | a :: l,r,h => by
    obtain ⟨u,s,_,h2,rfl⟩ := trs_inv h
    rw [List.length_cons,List.length_cons,trs_len h2]
theorem setEach_len : ∀ {is : List Nat} {ds : List D} {ts : List Tag} {ρ ρ1 : Env},setEach ρ is ds ts = some ρ1 → ds.length = is.length
  | [],[],ts,ρ,ρ1,h => rfl
  | [],d :: ds,ts,ρ,ρ1,h => by cases ts <;> cases h
  | i :: is,[],ts,ρ,ρ1,h => by cases ts <;> cases h
  | i :: is,d :: ds,ts,ρ,ρ1,h => by
    cases ts with
    | nil => cases h
    | cons t ts =>
      simp only [setEach] at h
      split at h
      · rw [List.length_cons,List.length_cons,setEach_len h]
      · cases h
theorem setEach_ok : ∀ {is : List Nat} {ds : List D} {ts : List Tag} {vs : List V} {ρ ρ1 : Env} {σ : St},EnvOk T Γ G ρ σ H1 → EnvOk T Γ G ρ σ H1 → (∀ b,H b = none → ∀ c,Cond Γ c b) → RsOk T Γ H H1 ds ts vs → setEach ρ is ds ts = some ρ1 → EnvOk T Γ G ρ1 ((is.zip vs).foldl (fun σ p => σ.set p.1 (some p.2)) σ) H1
  | [],[],[],_,ρ,ρ1,σ,h,_,_,⟨_,e⟩,q => by subst e; cases q; exact h
  | i :: is,d :: ds,t :: ts,_,ρ,ρ1,σ,h,h',fr,⟨t',ts',v,vs',e1,e2,o,r⟩,q => by
    cases e1; subst e2
    simp only [setEach] at q
    split at q
    · rename_i t'' hk
      obtain ⟨rep,no⟩ := keep_ok hk o
      rw [entOf_eq] at q
      have h2 : EnvOk T Γ G (ρ.set i (some ⟨d,false,tagCl t''⟩)) (σ.set i (some v)) H1 := h.setv (rep.imp fun b z => by
        cases t'' with
        | new => exact fr b z _
        | cl c => exact TCc.cond z (keep_dp hk)
        | own c => exact TCc.cond z (keep_dp hk))
      rw [List.zip_cons_cons,List.foldl_cons]
      exact setEach_ok h2 h2 fr r q
    · cases q
  | [],d :: ds,_,_,_,_,_,_,_,_,_,q => by simp [setEach] at q
  | i :: is,[],_,_,_,_,_,_,_,_,_,q => by simp [setEach] at q
  | i :: is,d :: ds,[],_,_,_,_,_,_,_,_,q => by simp [setEach] at q
  | [],[],t :: ts,_,_,_,_,_,_,_,_,q => by simp [setEach] at q
theorem slot_inj {x1 x2 : Str} {i j : Nat} (h1 : slot N x1 = some i) (h2 : slot N x2 = some j) (hx : x2 ≠ x1) : i ≠ j := fun e => by
  subst e
  have q1 := slot_get h1
  have q2 := slot_get h2
  rw [q1] at q2
  exact hx (Option.some.inj q2).symm
theorem DenA.stepS {ta : TA} {xs : List Ex} (ha : DenA T W E ta xs) {k : List D → List Tag → Option Out} (hk : (match evEs W ρ xs with | some (.ok ds ts) => k ds ts | some (.exc c) => some (.exc c) | none => none) = some o) (h : EnvOk T Γ G ρ σ H) (hp : PostS T E Γ G K o) {Q' : List V → Hp → Prop}
    (cont : ∀ ds ts vs H1,k ds ts = some o → Same H H1 → RsOk T Γ H H1 ds ts vs → EnvOk T Γ G ρ σ H1 → Q' vs H1) : ta σ H Q' := by
  cases e : evEs W ρ xs with
  | none => rw [e] at hk; cases hk
  | some r1 =>
    rw [e] at hk
    cases r1 with
    | exc c =>
      have z : o = .exc c := (Option.some.inj hk).symm
      subst z
      exact ha Γ G ρ σ H _ _ e h fun H' s => hp H' (h.same.trans s)
    | ok ds ts => exact ha Γ G ρ σ H _ _ e h fun v H' s q => cont ds ts v H' hk s q (h.mono s)
theorem snd_par (O : SOk T W true k X N sc E) (ih : ∀ e x,go e = some x → Gd T W X E e x) {tt es : List Expr} {nl : List (Str × Nat)} {m n : Nat} {p q pos : Pos} {s : Sx} (hn : namesOf tt = some nl) (h : trPar go N sc nl es = some s) : SndS T W X E (.Assign [.Tuple tt m p] (.Tuple es n q) pos) s := by
  have hN : X.N.Nodup := by rw [O.x.hN]; exact O.nd
  have at_ : ∀ {x : Str} {i : Nat},slot N x = some i → X.N[i]? = some x := fun hi => by rw [O.x.hN]; exact slot_get hi
  obtain ⟨ps,e1,e2,e3⟩ := names_inv hn
  obtain ⟨hok,h1'⟩ := iteN h
  obtain ⟨is,his,h2'⟩ := bndI h1'
  obtain ⟨us,hus,h3'⟩ := bndI h2'
  obtain ⟨hlen,h4'⟩ := iteN h3'
  cases h4'
  clear h h1' h2' h3' hn
  unfold okPar at hok
  simp only [Bool.and_eq_true,Bool.not_eq_true',List.all_eq_true,decide_eq_true_eq,beq_iff_eq] at hok
  obtain ⟨hall,hnd,hff,hcc⟩ := hok
  obtain ⟨⟨ta,pa,da⟩,hst⟩ := sndA_trs ih hus
  have ln := trs_len his
  have le := trs_len hus
  have hfa : es.all (foldedForSure 8) = false := Bool.eq_false_iff.mpr fun z => by rw [List.all_eq_true] at z; exact absurd hff (by simpa using z)
  have hca : es.all (constantsAlone 8) = false := Bool.eq_false_iff.mpr fun z => by rw [List.all_eq_true] at z; exact absurd hcc (by simpa using z)
  have nst := nostar_any X.env hst
  obtain ⟨k1,k2⟩ := hlen
  · obtain ⟨⟨x,lx⟩,⟨y,ly⟩,rfl⟩ := len2 (ln.symm.trans k1)
    obtain ⟨a,b,rfl⟩ := len2 (le.symm.trans k2)
    obtain ⟨p1,p2,rfl⟩ := len2 (show ps.length = 2 from e2)
    obtain ⟨i,s1,h1,hs1,rfl⟩ := trs_inv his
    obtain ⟨j,s2,h2,hs2,rfl⟩ := trs_inv hs1
    cases hs2
    simp only [List.zip_cons_cons,List.zip_nil_left,List.zip_nil_right,List.map_cons,List.map_nil] at e1
    subst e1
    have l1 : p1.line = lx := e3 ((x,lx),p1) (by simp)
    have l2 : p2.line = ly := e3 ((y,ly),p2) (by simp)
    have g1 := hall (x,lx) (by simp)
    have g2 := hall (y,ly) (by simp)
    have hxy : y ≠ x := fun e => by subst e; simp [nodupB] at hnd
    refine ⟨_,ps_par (O.x.calm rfl) hN (at_ h1) (at_ h2) (slot_inj h1 h2 hxy) (O.locs _ g1.1) (O.locs _ g2.1) pa (par2_stores (blockF O) (O.locs _ g1.1) (O.locs _ g2.1) (by rw [l1,l2]; have := g2.2; simpa using this) hxy nst hfa hca) rfl,fun Γ G ρ σ H o K he h hp => ?_⟩
    conv at he => lhs; whnf
    refine da.stepS (k:=fun ds ts => match setEach ρ [i,j] ds ts with | some ρ1 => some (.nx ρ1) | none => none) he h hp fun ds ts vs H1 hk s ok hh => ?_
    split at hk
    · rename_i ρ1 hset
      cases hk
      have hE := setEach_ok (H:=H) hh hh (fun b z c => h.fresh z) ok hset
      obtain ⟨d1,d2,rfl⟩ := len2 (setEach_len hset)
      obtain ⟨t1,v1,t2,v2,rfl,rfl,o1,o2⟩ := rs2 ok
      exact ⟨v1,v2,rfl,hp Γ _ H1 rfl rfl hE⟩
    · cases hk
end
end Ev
set_option Elab.async false
set_option maxRecDepth 100000
set_option maxHeartbeats 1000000
namespace Ev
open PySem L2
section
variable {T : Tx} {W : Wd} {cm : Bool} {k : Nat} {X : Cx} {N : List Str} {sc : List (Str × NameKind)} {E : XK} {Γ Γ' : Ctx} {G : List Gh} {ρ ρ1 : Env} {σ σ1 : St} {H H1 H2 H' : Hp} {C C' : Addr → Prop} {K : Ends} {o : Out} {d : D} {t u : Tag} {v w vx vy : V} {ds : List D} {ts : List Tag} {vs xs : List V} {c c' : Cl} {x y z : Ex} {e a b : Expr} {go : Go} {mu : List Str}
theorem lim_size {n : Nat} (h : n ≤ lim) : n ≤ sizeLine := Nat.le_trans h (by decide)
theorem rt_rep {t : Tag} (ok : ROk T Γ H H1 d t v) (no : ∀ k,Ev.rt d t ≠ .own k) : Rep T H1 (TC Γ H (Ev.rt d t)) d v := ok.rt.rep no
def isSl : Expr → Bool
  | .Slice _ _ _ _ => true
  | _ => false
theorem snd_setix (O : SOk T W cm k X N sc E) {x' : Str} {kx : Expr} {i : Nat} {p q pos : Pos} (hv : isVis sc x' = true) (hi : slot N x' = some i) (hsl : isSl kx = false) (hk : Gd T W X E kx y) (he : Gd T W X E e x) : SndS T W X E (.Assign [.Subscript (.Name x' p) kx q] e pos) (.setix i y x) := by
  obtain ⟨te,pe,de⟩ := he.snd
  obtain ⟨tk,pk,dk⟩ := hk.snd
  obtain ⟨z1,z2⟩ := vis_ok hv
  have pv : PE X (.Name x' p) (tVar i) := pe_var (by rw [O.x.hN]; exact slot_get hi) (O.x.vis _ hv) z1 z2
  have hs : swapsWithSole [.Subscript (.Name x' p) kx q] e pos.line X.env = pure false := by cases e <;> rfl
  have hw : swappedStores [.Subscript (.Name x' p) kx q] e X.env = pure none := by cases e <;> rfl
  refine ⟨_,ps_asg pe (pg_sub pv pk set_list (fun _ => by cases kx <;> first | rfl | cases hsl)) hs hw rfl,fun Γ G ρ σ H o K he h hp => ?_⟩
  conv at he => lhs; whnf
  refine de.stepS he h hp fun d t v H1 hk' s ok h1 => ?_
  split at hk'
  · rename_i ds c hown
    obtain ⟨l,xs,hσ,hO,hl,rs,hS⟩ := h1.ownAt hown
    refine ⟨.ref l,hσ,?_⟩
    refine dk.stepS hk' h1 hp fun j t' v' H2 hk'' s2 ok2 h2 => ?_
    split at hk''
    · rename_i n
      split at hk''
      · rename_i m c' hm hc
        cases hk''
        obtain ⟨k1,k2,k3,k4,k5⟩ := tagC_ok h hc
        have rs2 := rs.same s2
        refine ⟨l,xs,n,m,rfl,ok2.any,s2 _ _ hl,by rw [rs.length,← ixN_eq]; exact hm,?_⟩
        exact hp Γ σ _ rfl rfl (h2.wr hown hσ (s2 _ _ hl) hO (hS k4) k4 k5 ((rs2.imp fun b z => k1 b z).set m (((rt_rep ok k3).same s2).imp fun b z => k2 b z)))
      · cases hk''
    · cases hk''
  · cases hk'
theorem snd_app (O : SOk T W cm k X N sc E) {x' m : Str} {i : Nat} {p q cpos pos : Pos} (hm : m = "append") (hv : isVis sc x' = true) (hl : (q.endLine == cpos.line) = true) (hi : slot N x' = some i) (he : Gd T W X E e x) : SndS T W X E (.Expr (.Call (.Attribute (.Name x' p) m q) [e] [] cpos) pos) (.app i x) := by
  subst hm
  obtain ⟨te,pe,de⟩ := he.snd
  obtain ⟨z1,z2⟩ := vis_ok hv
  have hst := he.star
  have pv : PE X (.Name x' p) (tVar i) := pe_var (by rw [O.x.hN]; exact slot_get hi) (O.x.vis _ hv) z1 z2
  refine ⟨_,ps_expr (pe_bm PySem.F.plainAttrs_list PySem.F.slot_list_append PySem.F.type_list_append mt_append pv (pa_cons pe pa_nil (hst _ _)) rfl (by rw [hst]; rfl) hl (hst _ _) rfl) rfl,fun Γ G ρ σ H o K he h hp => ?_⟩
  conv at he => lhs; whnf
  split at he
  · rename_i ds c hown
    obtain ⟨l,xs,hσ,hO,hl',rs,hS⟩ := h.ownAt hown
    refine ⟨.ref l,hσ,.inl ⟨rfl,xs,SqL.of hl'⟩,?_⟩
    refine de.stepS he h hp fun d t v H1 hk s ok h1 => ?_
    split at hk
    · rename_i c' hc
      split at hk
      · rename_i hlen
        cases hk
        obtain ⟨k1,k2,k3,k4,k5⟩ := tagC_ok h hc
        refine ⟨l,xs,v,rfl,rfl,s _ _ hl',by rw [rs.length]; exact Nat.lt_of_lt_of_le hlen (by decide),?_⟩
        exact hp Γ σ _ rfl rfl (h1.wr hown hσ (s _ _ hl') hO (hS k4) k4 k5 (((rs.same s).imp fun b z => k1 b z).append ⟨v,[],rfl,(rt_rep ok k3).imp fun b z => k2 b z,rfl⟩))
      · cases hk
    · cases hk
  · cases he
theorem snd_ext (O : SOk T W cm k X N sc E) {x' m : Str} {i : Nat} {p q cpos pos : Pos} (hm : m = "extend") (hv : isVis sc x' = true) (hl : (q.endLine == cpos.line) = true) (hi : slot N x' = some i) (he : Gd T W X E e x) : SndS T W X E (.Expr (.Call (.Attribute (.Name x' p) m q) [e] [] cpos) pos) (.ext i x) := by
  subst hm
  obtain ⟨te,pe,de⟩ := he.snd
  obtain ⟨z1,z2⟩ := vis_ok hv
  have hst := he.star
  have pv : PE X (.Name x' p) (tVar i) := pe_var (by rw [O.x.hN]; exact slot_get hi) (O.x.vis _ hv) z1 z2
  refine ⟨_,ps_expr (pe_bm PySem.F.plainAttrs_list PySem.F.slot_list_extend PySem.F.type_list_extend mt_extend pv (pa_cons pe pa_nil (hst _ _)) rfl (by rw [hst]; rfl) hl (hst _ _) rfl) rfl,fun Γ G ρ σ H o K he h hp => ?_⟩
  conv at he => lhs; whnf
  split at he
  · rename_i ds c hown
    obtain ⟨l,xs,hσ,hO,hl',rs,hS⟩ := h.ownAt hown
    refine ⟨.ref l,hσ,.inl ⟨rfl,xs,SqL.of hl'⟩,?_⟩
    refine de.stepS he h hp fun d t v H1 hk s ok h1 => ?_
    split at hk
    · rename_i es
      split at hk
      · rename_i c' hc
        split at hk
        · rename_i hlen
          cases hk
          obtain ⟨l2,zs,rfl,hl2,rs2⟩ := ok.list
          obtain ⟨k1,k2,k3,k4,k5⟩ := tagC_ok h hc
          have rz : Reps T H1 (Cond Γ c') es zs := by
            unfold rts at hc k2
            split at hc
            · rename_i hf; exact Reps.free es zs hf rs2
            · rename_i hf
              rw [if_neg hf] at k2
              exact rs2.imp fun b z => k2 b (by rw [TC.el]; exact z)
          refine ⟨l,l2,xs,zs,rfl,rfl,s _ _ hl',hl2,by rw [rs.length,rs2.length]; exact lim_size hlen,?_⟩
          exact hp Γ σ _ rfl rfl (h1.wr hown hσ (s _ _ hl') hO (hS k4) k4 k5 (((rs.same s).imp fun b z => k1 b z).append rz))
        · cases hk
      · cases hk
    · cases hk
  · cases he
theorem snd_ins (O : SOk T W cm k X N sc E) {x' m : Str} {i : Nat} {kx : Expr} {p q cpos pos : Pos} (hm : m = "insert") (hv : isVis sc x' = true) (hl : (q.endLine == cpos.line) = true) (hi : slot N x' = some i) (hk : Gd T W X E kx y) (he : Gd T W X E e x) : SndS T W X E (.Expr (.Call (.Attribute (.Name x' p) m q) [kx,e] [] cpos) pos) (.ins i y x) := by
  subst hm
  obtain ⟨te,pe,de⟩ := he.snd
  obtain ⟨tk,pk,dk⟩ := hk.snd
  obtain ⟨z1,z2⟩ := vis_ok hv
  have hst := he.star
  have hst' := hk.star
  have pv : PE X (.Name x' p) (tVar i) := pe_var (by rw [O.x.hN]; exact slot_get hi) (O.x.vis _ hv) z1 z2
  refine ⟨_,ps_expr (pe_bm PySem.F.plainAttrs_list PySem.F.slot_list_insert PySem.F.type_list_insert mt_insert pv (pa_cons pk (pa_cons pe pa_nil (hst _ _)) (hst' _ _)) rfl (by rw [hst',hst]; rfl) hl (hst' _ _) (star_plain fun e he => by rw [List.mem_singleton.mp he]; exact hst)) rfl,fun Γ G ρ σ H o K he h hp => ?_⟩
  conv at he => lhs; whnf
  split at he
  · rename_i ds c hown
    obtain ⟨l,xs,hσ,hO,hl',rs,hS⟩ := h.ownAt hown
    refine ⟨.ref l,hσ,.inl ⟨rfl,xs,SqL.of hl'⟩,?_⟩
    refine dk.stepS he h hp fun j t' v' H1 hk' s1 ok1 h1 => ?_
    refine de.stepS hk' h1 hp fun d t v H2 hk s ok h2 => ?_
    split at hk
    · rename_i n
      split at hk
      · rename_i c' hc
        split at hk
        · rename_i hz
          cases hk
          cases (show v' = .int n from ok1.any)
          obtain ⟨k1,k2,k3,k4,k5⟩ := tagC_ok h1 hc
          have s2 := s1.trans s
          refine ⟨l,xs,n,v,rfl,rfl,s2 _ _ hl',⟨hz.1,by rw [rs.length]; exact hz.2.1⟩,by rw [rs.length]; exact Nat.lt_of_lt_of_le hz.2.2 (by decide),?_⟩
          have rs' := (rs.same s2).imp fun b z => k1 b z
          exact hp Γ σ _ rfl rfl (h2.wr hown hσ (s2 _ _ hl') hO (hS k4) k4 k5 ((rs'.take n.toNat).append ⟨v,_,rfl,(rt_rep ok k3).imp fun b z => k2 b z,rs'.drop n.toNat⟩))
        · cases hk
      · cases hk
    · cases hk
  · cases he
theorem PS.nox {st : Stmt} {t : TS} (h : PS X.nox st t) : PS X st t := fun pins s σ H K I hw =>
  wpAny_mono (h pins s σ H K (I.wish _) hw) (fun _ _ q => q.unwish) fun _ _ z => False.elim z
theorem EnvOk.less {G' : List Gh} (h : EnvOk T Γ G ρ σ H) (hs : ∀ g ∈ G',g ∈ G) : EnvOk T Γ G' ρ σ H := ⟨h.same,h.own,h.deep,h.ent,h.inj,fun g z => h.gh g (hs g z),h.len⟩
theorem EnvOk.more {G' : List Gh} (h : EnvOk T Γ G ρ σ H) (hg : ∀ g ∈ G',GOk T Γ H g) : EnvOk T Γ (G' ++ G) ρ σ H := ⟨h.same,h.own,h.deep,h.ent,h.inj,fun g z => (List.mem_append.mp z).elim (hg g) (h.gh g),h.len⟩
theorem for_step {body : List Sx} {tgx : Tg} {g : TG} {t' : Tag} {Gx : List Gh} {K : Ends} {Pv : St → Hp → Prop} {r : List D} (tok : TgOk T g tgx) (h0 : Γ'.H0 = Γ.H0) (hP : Γ'.P = Γ.P) (h : EnvOk T Γ' Gx ρ σ H) (rd : Rep T H (Cond Γ' (tagCl t')) d v)
    (hgo : forGo (fun ρ' => evSs W ρ' body) (fun ρ' x => bindT ρ' t' tgx x) (d :: r) ρ = some o) (hp : PostS T E Γ G K o)
    (next : ∀ (Γ'' : Ctx) (ρ2 : Env) (σ' : St) (H' : Hp),Γ''.H0 = Γ.H0 → Γ''.P = Γ.P → forGo (fun ρ' => evSs W ρ' body) (fun ρ' x => bindT ρ' t' tgx x) r ρ2 = some o → EnvOk T Γ'' Gx ρ2 σ' H' → Pv σ' H') :
    g v σ H fun σ2 H2 => tSs T W EN body { K with nx := Pv,ct := Pv,bk := K.nx } σ2 H2 := by
  simp only [forGo] at hgo
  split at hgo
  · cases hgo
  · rename_i ρ1 hb
    refine tok h (rd.imp fun b z => .inr z) hb fun σ1 h1 _ _ => ?_
    split at hgo
    · rename_i ρ2 hbody
      exact ⟨Γ',Gx,ρ1,_,hbody,h1,fun Γ'' σ' H' e1 e2 h' => next Γ'' ρ2 σ' H' (e1.trans h0) (e2.trans hP) hgo h'⟩
    · rename_i d' t'' hbody
      cases hgo
      refine ⟨Γ',Gx,ρ1,_,hbody,h1,?_⟩
      have : PostS T EN Γ G { K with nx := Pv,ct := Pv,bk := K.nx } (.rt d' t'') := hp
      exact this.ctx h0 hP
    · cases hgo
theorem snd_forL (O : SOk T W true k X N sc E) {tg iter : Expr} {tgx : Tg} {bd : List Stmt} {bs : List Sx} {pos : Pos} (ht : trTg N sc tg = some tgx) (hi : PE X.nox iter (tE T W EN x)) (hf : ∀ (v : Value),foldedSetIterable iter X.env v = pure v) (hb : PSs X.nox bd (tSs T W EN bs)) : SndS T W X E (.For tg iter bd [] pos) (.forL tgx x bs) := by
  have pg : PG X.nox tg (gOf T.K tgx) := pg_of (X:=X.nox) (T:=T) O.x.hK (O.x.calm rfl) O.x.hN O.nd O.loc ht
  have tok := @tgOk_of T _ _ _ _ ht
  refine ⟨_,PS.nox (ps_for PassesOwn.never (O.x.calm rfl) (pi_list hi) pg hb hf),fun Γ G ρ σ H o K he h hp => ?_⟩
  conv at he => lhs; whnf
  split at he
  · rename_i ds t e1
    split at he
    · cases he
    rename_i hdp
    · · refine ⟨Γ,G,ρ,_,e1,h,fun v H1 s ok => ?_⟩
        obtain ⟨a,xs,rfl,ha,rs⟩ := ok.list
        have h1 := h.mono s
        have main : ∀ (Γ0 : Ctx) (ρ0 : Env),Γ0.H0 = Γ.H0 → Γ0.P = Γ.P → EnvOk T Γ0 G ρ0 σ H1 → ¬ Γ0.O a → Reps T H1 (Cond Γ0 (tagCl t.el)) ds xs → forGo (fun ρ' => evSs W ρ' bs) (fun ρ' x => bindT ρ' t.el tgx x) ds ρ0 = some o → ∃ b,V.ref a = V.ref b ∧ (∃ xs,SqL X.nox.K H1 b xs) ∧ ∃ W' : Nat → Nat → St → Hp → Prop,(∃ m,W' 0 m σ H1) ∧ ∀ i m σ H,W' i m σ H →
            ((Itl X.nox.K b).stop i H ∧ K.nx σ H) ∨ ((Itl X.nox.K b).go i H ∧ ∃ N : St → Hp → Prop,(∀ σ' H',N σ' H' → ∃ m',m' < m ∧ W' (i + 1) m' σ' H') ∧ ∀ x H',(Itl X.nox.K b).yld i H x H' → gOf T.K tgx x σ H' fun σ2 H2 => tSs T W EN bs { K with nx := N,ct := N,bk := K.nx } σ2 H2) := fun Γ0 ρ0 c0 cP h0 nO r0 hgo => by
          refine ⟨a,rfl,⟨xs,SqL.of ha⟩,?_⟩
          have hgh : EnvOk T Γ0 (Gh.at a xs :: (ds.zip xs).map (fun p => Gh.val (tagCl t.el) p.1 p.2) ++ G) ρ0 σ H1 := h0.more fun g hg => by
            rcases List.mem_cons.mp hg with rfl | hg
            · exact ⟨ha,nO⟩
            · rw [List.mem_map] at hg
              obtain ⟨⟨d',v'⟩,hm,rfl⟩ := hg
              obtain ⟨n,hn⟩ := List.mem_iff_getElem?.mp hm
              rw [List.getElem?_zip_eq_some] at hn
              obtain ⟨v2,q1,q2⟩ := r0.get hn.1
              rw [hn.2] at q1
              cases q1
              exact q2
          refine for_list (K:=X.nox.K) (a:=a) (xs:=xs) (fun i σ' H' => ∃ (Γ' : Ctx) (ρ' : Env),Γ'.H0 = Γ.H0 ∧ Γ'.P = Γ.P ∧ forGo (fun ρ' => evSs W ρ' bs) (fun ρ' x => bindT ρ' t.el tgx x) (ds.drop i) ρ' = some o ∧ EnvOk T Γ' (Gh.at a xs :: (ds.zip xs).map (fun p => Gh.val (tagCl t.el) p.1 p.2) ++ G) ρ' σ' H')
            ⟨Γ0,ρ0,c0,cP,hgo,hgh⟩ (fun i σ' H' _ ⟨Γ',ρ',_,_,_,hE⟩ => SqL.of (hE.gh (Gh.at a xs) (by simp)).1) ?_ ?_
          · rintro i v σ' H' hv ⟨Γ',ρ',g0,gP,hgo',hE⟩
            obtain ⟨d,hd,_⟩ := r0.get' hv
            have hdl : i < ds.length := (List.getElem?_eq_some_iff.mp hd).1
            have hdrop : ds.drop i = d :: ds.drop (i + 1) := by
              rw [List.drop_eq_getElem_cons hdl]
              congr 1
              rw [List.getElem?_eq_getElem hdl] at hd
              exact Option.some.inj hd
            rw [hdrop] at hgo'
            have rd : Rep T H' (Cond Γ' (tagCl t.el)) d v := hE.gh (Gh.val (tagCl t.el) d v) (by
              refine List.mem_append_left _ (List.mem_cons_of_mem _ (List.mem_map.mpr ⟨(d,v),?_,rfl⟩))
              exact List.mem_iff_getElem?.mpr ⟨i,List.getElem?_zip_eq_some.mpr ⟨hd,hv⟩⟩)
            exact for_step (E:=E) tok g0 gP hE rd hgo' hp fun Γ'' ρ2 σ2 H2 a1 a2 a3 a4 => ⟨Γ'',ρ2,a1,a2,a3,a4⟩
          · rintro σ' H' ⟨Γ',ρ',g0,gP,hgo',hE⟩
            rw [rs.length,List.drop_length] at hgo'
            simp only [forGo] at hgo'
            cases hgo'
            exact hp Γ' σ' H' g0 gP (hE.less fun g hg => List.mem_append_right _ hg)
        cases t with
        | new => exact main Γ ρ rfl rfl h1 (fun z => (h.own a z).2 (by obtain ⟨a',xs',e,c,_⟩ := ok; cases e; exact c)) (rs.imp fun b z => h.fresh z) he
        | cl c =>
          have hc : c ≠ .dp := fun z => hdp (by rw [z]; rfl)
          exact main Γ ρ rfl rfl h1 (by obtain ⟨a',xs',e,c,_⟩ := ok; cases e; exact (c.cond hc).1) (rs.imp fun b z => TCc.cond z hc) he
        | own c =>
          have hc : c ≠ .dp := fun z => hdp (by rw [z]; rfl)
          exact main { Γ with O := fun _ => False,S := fun _ => False } (disownAll ρ) rfl rfl h1.disownAll id (rs.imp fun b (z : TCc Γ c b) => ⟨id,(z.cond hc).2⟩) he
  · cases he
theorem snd_forR {lo hi : Ex} (O : SOk T W true k X N sc E) {tg iter : Expr} {i : Nat} {bd : List Stmt} {bs : List Sx} {pos : Pos} {wi : TI} (ht : trTg N sc tg = some (.name i)) (hi' : PI X.nox tg iter wi)
    (hwi : ∀ (Γ : Ctx) (G : List Gh) (ρ : Env) (σ : St) (H : Hp) (a b : Int) (t t' : Tag) (R : It → Hp → Prop),evE W ρ lo = some (.ok (.int a) t) → evE W ρ hi = some (.ok (.int b) t') → smallI a = true → smallI b = true → EnvOk T Γ G ρ σ H → (∀ H1,Same H H1 → R (Itr a (b - a).toNat) H1) → wi σ H R)
    (hf : ∀ (v : Value),foldedSetIterable iter X.env v = pure v) (hb : PSs X.nox bd (tSs T W EN bs)) : SndS T W X E (.For tg iter bd [] pos) (.forR i lo hi bs) := by
  have pg : PG X.nox tg (gOf T.K (.name i)) := pg_of (X:=X.nox) (T:=T) O.x.hK (O.x.calm rfl) O.x.hN O.nd O.loc ht
  refine ⟨_,PS.nox (ps_for PassesOwn.never (O.x.calm rfl) hi' pg hb hf),fun Γ G ρ σ H o K he h hp => ?_⟩
  conv at he => lhs; whnf
  split at he
  · rename_i a t b t' e1 e2
    split at he
    · rename_i hz
      refine hwi Γ G ρ σ H a b t t' _ e1 e2 hz.1 hz.2 h fun H1 s => ?_
      refine for_range (lo:=a) (n:=(b - a).toNat) (fun j σ' H' => ∃ (Γ' : Ctx) (ρ' : Env),Γ'.H0 = Γ.H0 ∧ Γ'.P = Γ.P ∧ forGo (fun ρ' => evSs W ρ' bs) (fun ρ' x => bindT ρ' .new (.name i) x) ((rangeD a (b - a).toNat).drop j) ρ' = some o ∧ EnvOk T Γ' G ρ' σ' H')
        ⟨Γ,ρ,rfl,rfl,he,h.mono s⟩ ?_ ?_
      · rintro j σ' H' hj ⟨Γ',ρ',g0,gP,hgo',hE⟩
        have hlen : (rangeD a (b - a).toNat).length = (b - a).toNat := by simp [rangeD]
        have hdrop : (rangeD a (b - a).toNat).drop j = .int (a + (j : Int)) :: (rangeD a (b - a).toNat).drop (j + 1) := by
          rw [List.drop_eq_getElem_cons (by rw [hlen]; exact hj)]
          congr 1
          simp [rangeD]
        rw [hdrop] at hgo'
        exact for_step (E:=E) (tgx:=.name i) (t':=.new) (d:=.int (a + (j : Int))) tgOk_name g0 gP hE rfl hgo' hp fun Γ'' ρ2 σ2 H2 a1 a2 a3 a4 => ⟨Γ'',ρ2,a1,a2,a3,a4⟩
      · rintro σ' H' ⟨Γ',ρ',g0,gP,hgo',hE⟩
        have hlen : (rangeD a (b - a).toNat).length = (b - a).toNat := by simp [rangeD]
        rw [List.drop_eq_nil_of_le (by rw [hlen]; exact Nat.le_refl _)] at hgo'
        simp only [forGo] at hgo'
        cases hgo'
        exact hp Γ' σ' H' g0 gP hE
    · cases he
  · cases he
theorem snd_while (O : SOk T W true k X N sc E) {tst : Expr} {bd : List Stmt} {bs : List Sx} {pos : Pos} (ht : PT X.nox tst (tT T W EN x)) (hb : PSs X.nox bd (tSs T W EN bs)) : SndS T W X E (.While tst bd [] pos) (.while_ x bs) := by
  refine ⟨_,PS.nox (ps_while PassesOwn.never ht hb),fun Γ G ρ σ H o K he h hp => ?_⟩
  conv at he => lhs; whnf
  refine ⟨fun m σ' H' => ∃ (Γ' : Ctx) (ρ' : Env),Γ'.H0 = Γ.H0 ∧ Γ'.P = Γ.P ∧ whGo (fun ρ' => evE W ρ' x) (fun ρ' => evSs W ρ' bs) m ρ' = some o ∧ EnvOk T Γ' G ρ' σ' H',⟨64,Γ,ρ,rfl,rfl,he,h⟩,?_⟩
  rintro m σ' H' ⟨Γ',ρ',g0,gP,hgo,hE⟩
  cases m with
  | zero => cases hgo
  | succ m =>
    simp only [whGo] at hgo
    split at hgo
    · rename_i tb htst
      refine ⟨Γ',G,ρ',_,htst,⟨true,rfl⟩,hE,fun b H1 e s => ?_⟩
      cases e
      rw [if_pos rfl]
      refine ⟨fun σ2 H2 => ∃ (Γ' : Ctx) (ρ' : Env),Γ'.H0 = Γ.H0 ∧ Γ'.P = Γ.P ∧ whGo (fun ρ' => evE W ρ' x) (fun ρ' => evSs W ρ' bs) m ρ' = some o ∧ EnvOk T Γ' G ρ' σ2 H2,fun σ2 H2 q => ⟨m,Nat.lt_succ_self _,q⟩,?_⟩
      split at hgo
      · rename_i ρ2 hbody
        exact ⟨Γ',G,ρ',_,hbody,hE.mono s,fun Γ'' σ2 H2 e1 e2 h2 => ⟨Γ'',ρ2,e1.trans g0,e2.trans gP,hgo,h2⟩⟩
      · rename_i d' t' hbody
        cases hgo
        refine ⟨Γ',G,ρ',_,hbody,hE.mono s,?_⟩
        have : PostS T EN Γ G { K with nx := fun σ2 H2 => ∃ (Γ' : Ctx) (ρ' : Env),Γ'.H0 = Γ.H0 ∧ Γ'.P = Γ.P ∧ whGo (fun ρ' => evE W ρ' x) (fun ρ' => evSs W ρ' bs) m ρ' = some (.rt d' t') ∧ EnvOk T Γ' G ρ' σ2 H2,ct := fun σ2 H2 => ∃ (Γ' : Ctx) (ρ' : Env),Γ'.H0 = Γ.H0 ∧ Γ'.P = Γ.P ∧ whGo (fun ρ' => evE W ρ' x) (fun ρ' => evSs W ρ' bs) m ρ' = some (.rt d' t') ∧ EnvOk T Γ' G ρ' σ2 H2,bk := K.nx } (.rt d' t') := hp
        exact this.ctx g0 gP
      · cases hgo
    · rename_i tb htst
      cases hgo
      refine ⟨Γ',G,ρ',_,htst,⟨false,rfl⟩,hE,fun b H1 e s => ?_⟩
      cases e
      rw [if_neg Bool.false_ne_true]
      exact hp Γ' σ' H1 g0 gP (hE.mono s)
    · cases hgo
end
end Ev
set_option Elab.async false
set_option maxRecDepth 100000
set_option maxHeartbeats 1000000
namespace Ev
open PySem L2
section
variable {T : Tx} {W : Wd} {cm : Bool} {k : Nat} {X : Cx} {N : List Str} {sc : List (Str × NameKind)} {E : XK} {x y z : Ex} {e a b : Expr} {go : Go} {mu : List Str} {s : Sx} {st : Stmt}
theorem SOk.nox (O : SOk T W cm k X N sc E) : SOk T W cm k X.nox N sc EN where
  x := ⟨O.x.hK,O.x.hN,O.x.tx,O.x.vis,O.x.gl,O.x.kinds,O.x.calm,O.x.room,O.x.units,O.x.call,O.x.blt,O.x.glob,pass1,O.x.ty
    ,O.x.exi
    ⟩
  nd := O.nd
  loc := O.loc
  locs := O.locs
  kindF := O.kindF
  raises := fun _ _ _ _ _ _ _ _ _ _ z => z.elim
  xcls := O.xcls
theorem sl_of {n : Nat} (h : trE cm n N sc e = some x) : isSl e = false := by
  cases n with
  | zero => cases h
  | succ n => cases e with
    | Slice a b c p => exact nomatch (trE_sl cm n N sc a b c p).symm.trans h
    | _ => rfl
theorem snd_asgS (O : SOk T W true k X N sc E) {tgt : Expr} {pos : Pos} (h : trAsg (trE true 30 N sc) N sc mu e tgt = some s) : SndS T W X E (.Assign [tgt] e pos) s := by
  have ih := fun e x => gd_E 30 O.x e x
  rcases altI h with ⟨q,h1⟩ | h1
  · obtain ⟨hl,h2⟩ := iteN h1
    obtain ⟨i,hi,h3⟩ := bndI h2
    obtain ⟨y,hy,e0⟩ := mapI h3
    rw [q.2,← e0]
    clear h h1 h2 h3 e0
    exact snd_asg O hl hi hy
  clear h
  rcases altI h1 with ⟨q,h2⟩ | h2
  · clear h1
    unfold trTup at h2
    split at h2
    · rename_i r _
      obtain ⟨nl,hn,h3⟩ := bndI h2
      rw [q.2,r.2]
      exact snd_par O ih hn h3
    · rename_i hq
      obtain ⟨g,hg,h3⟩ := bndI h2
      obtain ⟨ij,hij,h4⟩ := bndI h3
      obtain ⟨y,hy,e0⟩ := mapI h4
      rw [q.2] at hg ⊢
      rw [← e0]
      clear h2 h3 h4 e0
      cases g with
      | name _ => cases hij
      | tup is =>
        rw [twoOf_eq (show twoOf is = some ij from hij)] at hg
        refine snd_unp O hg ?_ (ih _ _ hy)
        cases e <;> first | rfl | cases hq
  · clear h1
    obtain ⟨q,_,h3⟩ := bndI h2
    obtain ⟨x',hn,h4⟩ := bndI h3
    obtain ⟨hv,h5⟩ := iteN h4
    obtain ⟨i,hi,h6⟩ := bndI h5
    obtain ⟨u,hu,h7⟩ := bndI h6
    obtain ⟨w,hw,e0⟩ := mapI h7
    obtain ⟨p',e1⟩ := nameOf_eq hn
    rw [q.2,e1,← e0]
    exact snd_setix O hv hi (sl_of hu) (ih _ _ hu) (ih _ _ hw)
theorem call_eq {f f' : Expr} {a : List Expr} {ks : List Keyword} {p : Pos} (hf : f = f') (hk : ks = []) : Expr.Call f a ks p = .Call f' a [] p := by rw [hf,hk]
theorem attr_eq {o o' : Expr} {m m' : Str} {p : Pos} (ho : o = o') (hm : m = m') : Expr.Attribute o m p = .Attribute o' m' p := by rw [ho,hm]
theorem mut_parts {i : Nat} {m : Str} {args : List Expr} (h : mutCall N sc e = some (i,m,args)) : ∃ x' p q cpos,e = .Call (.Attribute (.Name x' p) m q) args [] cpos ∧ isVis sc x' = true ∧ (q.endLine == cpos.line) = true ∧ slot N x' = some i := by
  obtain ⟨q,_,h1⟩ := bndI h
  obtain ⟨hk,h2⟩ := iteN h1
  obtain ⟨r,_,h3⟩ := bndI h2
  obtain ⟨x',hn,h4⟩ := bndI h3
  obtain ⟨hv,h5⟩ := iteN h4
  obtain ⟨i',hi,e'⟩ := mapI h5
  clear h h1 h2 h3 h4 h5
  cases e'
  rw [Bool.and_eq_true] at hv
  obtain ⟨p',e1⟩ := nameOf_eq hn
  exact ⟨x',p',_,_,q.2.trans (call_eq (r.2.trans (attr_eq e1 rfl)) (emp_eq hk)),hv.1,hv.2,hi⟩
theorem snd_exS (O : SOk T W cm k X N sc E) {pos : Pos} {dp : Nat → Bool} (h : trEx (trE cm 30 N sc) N sc dp e = some s) : SndS T W X E (.Expr e pos) s := by
  have ih := fun e x => gd_E 30 O.x e x
  rcases altK h with ⟨q,hm,h1⟩ | h1
  · obtain ⟨x',p',q1,cpos,e0,hv1,hv2,hi⟩ := mut_parts (i:=q.1) (m:=q.2.1) (args:=q.2.2) hm
    rw [e0]
    clear h hm e0
    rcases altK h1 with ⟨a,ha,h2⟩ | h2
    · rw [oneOf_eq ha]
      clear h1 ha
      rcases iteI h2 with ⟨hm',h3⟩ | h3
      · obtain ⟨y,hy,e1⟩ := mapI h3
        rw [← e1]
        exact snd_app O hm' hv1 hv2 hi (ih _ _ hy)
      obtain ⟨hm',h4⟩ := iteN h3
      obtain ⟨y,hy,e1⟩ := mapI h4
      rw [← e1]
      exact snd_ext O hm' hv1 hv2 hi (ih _ _ hy)
    · obtain ⟨ab,ha,h3⟩ := bndI h2
      rw [twoOf_eq ha]
      obtain ⟨hm',h4⟩ := iteN h3
      obtain ⟨u,hu,h5⟩ := bndI h4
      obtain ⟨v,hv,e1⟩ := mapI h5
      clear h1 ha h2 h3 h4 h5
      rw [← e1]
      exact snd_ins O hm' hv1 hv2 hi (ih _ _ hu) (ih _ _ hv)
  clear h
  by_cases hc : isComp e = true
  · rw [if_pos hc] at h1; cases h1
  rw [if_neg hc] at h1
  obtain ⟨y,hy,e1⟩ := mapI h1
  rw [← e1]
  exact snd_exprS (by simpa using hc) (ih _ _ hy)
theorem snd_forS (O : SOk T W true k X N sc E) {tg iter : Expr} {t : Tg} {bd : List Stmt} {bs : List Sx} {pos : Pos} (ht : trTg N sc tg = some t) (hb : PSs X.nox bd (tSs T W EN bs)) (h : trFor (trE true 30 N sc) sc t iter bs = some s) : SndS T W X E (.For tg iter bd [] pos) s := by
  have O' := O.nox
  have ih := fun e x => gd_E 30 O'.x e x
  rcases altK h with ⟨as,hr,h1⟩ | h1
  · obtain ⟨p,pos',e0,hg⟩ := range_of hr
    obtain ⟨i,hi,h2⟩ := bndI h1
    rw [nameT_eq hi] at ht
    rw [e0]
    clear h h1 hr hi e0
    rcases altK h2 with ⟨a,ha,h3⟩ | h3
    · obtain ⟨y,hy,ex⟩ := mapI h3
      rw [oneOf_eq ha,← ex]
      clear h2 h3 ha ex
      have hst := (ih _ _ hy).star
      obtain ⟨ta,pa,da⟩ := sndA_cons hst (ih _ _ hy).snd (sndA_nil (T:=T) (W:=W) (X:=X.nox) (E:=EN))
      refine snd_forR O ht (pi_range1 (O'.x.gl _ hg) (O'.x.blt _ (by decide +kernel)) pa (hst _ _)) (fun Γ G ρ σ H a' b' t t' R e1 e2 z1 z2 hE q => ?_) (fun _ => rfl) hb
      cases e1
      refine da Γ G ρ σ H (.ok [.int b'] [t']) _ (by rw [Es_c,e2]; rfl) hE fun vs H1 s ok => ?_
      obtain ⟨t1,v,_,rfl,o⟩ := rs1 (ds:=[]) ok
      cases (show v = .int _ from o.any)
      obtain ⟨b1,b2⟩ := small_of z2
      refine ⟨b',rfl,b1,b2,?_⟩
      have := q H1 s
      rw [Int.sub_zero] at this
      exact this
    · obtain ⟨ab,ha,h4⟩ := bndI h3
      obtain ⟨y,hy,h5⟩ := bndI h4
      obtain ⟨z,hz,ex⟩ := mapI h5
      rw [twoOf_eq ha,← ex]
      clear h2 h3 h4 h5 ha ex
      have hst := (ih _ _ hy).star
      have hst' := (ih _ _ hz).star
      obtain ⟨ta,pa,da⟩ := sndA_cons hst (ih _ _ hy).snd (sndA_cons hst' (ih _ _ hz).snd (sndA_nil (T:=T) (W:=W) (X:=X.nox) (E:=EN)))
      refine snd_forR O ht (pi_range2 (O'.x.gl _ hg) (O'.x.blt _ (by decide +kernel)) pa (by rw [hst,hst']; rfl) (hst' _ _)) (fun Γ G ρ σ H a' b' t t' R e1 e2 z1 z2 hE q => ?_) (fun _ => rfl) hb
      refine da Γ G ρ σ H (.ok [.int a',.int b'] [t,t']) _ (by rw [Es_c,e1]; dsimp only; rw [Es_c,e2]; rfl) hE fun vs H1 s ok => ?_
      obtain ⟨t1,v,t2,v',_,rfl,o,o'⟩ := rs2 ok
      cases (show v = .int _ from o.any)
      cases (show v' = .int _ from o'.any)
      obtain ⟨b1,b2⟩ := small_of z1
      obtain ⟨b3,b4⟩ := small_of z2
      exact ⟨a',b',rfl,⟨b1,b2,b3,b4⟩,q H1 s⟩
  obtain ⟨y,hy,ex⟩ := mapI h1
  rw [← ex]
  exact snd_forL O ht (ih _ _ hy).pe (fun v => (ih _ _ hy).fold _ v) hb
end
theorem snd_S {T : Tx} {W : Wd} {k : Nat} {N : List Str} {sc : List (Str × NameKind)} {mu : List Str} : ∀ (n : Nat) {X : Cx} {E : XK} (O : SOk T W true k X N sc E) (st : Stmt) (s : Sx),trS true n N sc mu st = some s → SndS T W X E st s := by
  intro n
  induction n with
  | zero => intro X E O st s h; cases h
  | succ n ihn =>
    intro X E O st s h
    have many : ∀ {X : Cx} {E : XK} (O : SOk T W true k X N sc E) {sts : List Stmt} {ss : List Sx},trs (trS true n N sc mu) sts = some ss → SndSs T W X E sts ss := by
      intro X E O sts
      induction sts with
      | nil => intro ss h; cases h; exact sndSs_nil
      | cons st sts ih =>
        intro ss h
        unfold trs at h
        split at h
        · rename_i s1 l h1 h2
          cases h
          exact sndSs_cons (ihn O _ _ h1) (ih h2)
        · cases h
    have ih := fun e x => gd_E 30 O.x e x
    rw [trS_succ] at h
    rcases altI h with ⟨q,h1⟩ | h1
    · obtain ⟨t,ht,h2⟩ := bndI h1
      rw [q.2,oneOf_eq ht]
      exact snd_asgS O h2
    clear h
    rcases altI h1 with ⟨q,h2⟩ | h2
    · rw [q.2]; exact snd_exS O h2
    clear h1
    rcases altI h2 with ⟨q,h3⟩ | h3
    · obtain ⟨e,he,h4⟩ := bndI h3
      obtain ⟨y,hy,e0⟩ := mapI h4
      rw [q.2,he,← e0]
      exact snd_ret (ih _ _ hy)
    clear h2
    rcases altI h3 with ⟨q,h4⟩ | h4
    · obtain ⟨t,h5,h6⟩ := bndI h4
      obtain ⟨x,h7,h8⟩ := bndI h6
      obtain ⟨y,h9,e0⟩ := mapI h8
      rw [q.2,← e0]
      exact snd_ifs (ih _ _ h5) (many O h7) (many O h9)
    clear h3
    rcases altI h4 with ⟨q,h5⟩ | h5
    · obtain ⟨hk,h6⟩ := iteN h5
      obtain ⟨b,h7,h8⟩ := bndI h6
      obtain ⟨t,h9,h10⟩ := bndI h8
      rw [q.2,emp_eq hk]
      exact snd_forS O h9 (many O.nox h7).pss h10
    clear h4
    rcases altI h5 with ⟨q,h6⟩ | h6
    · obtain ⟨hk,h7⟩ := iteN h6
      obtain ⟨t,h8,h9⟩ := bndI h7
      obtain ⟨b,h10,e0⟩ := mapI h9
      rw [q.2,emp_eq hk,← e0]
      exact snd_while O (gd_E 30 O.nox.x _ _ h8).pt (many O.nox h10).pss
    clear h5
    rcases altI h6 with ⟨q,h7⟩ | h7
    · obtain ⟨hk,h8⟩ := iteN h7
      obtain ⟨e,he,h9⟩ := bndI h8
      obtain ⟨r,hr,h10⟩ := bndI h9
      obtain ⟨a,ha,h11⟩ := bndI h10
      obtain ⟨hg,h12⟩ := iteN h11
      obtain ⟨y,hy,e0⟩ := mapI h12
      obtain ⟨p1,p2,e1⟩ := callOf_eq hr
      rw [q.2,he,Option.isNone_iff_eq_none.mp hk,e1,oneOf_eq ha,← e0]
      exact snd_raise O hg (ih _ _ hy)
    clear h6
    obtain ⟨q,_,e0⟩ := mapI h7
    rw [q.2,← e0]
    exact snd_pass
end Ev
set_option Elab.async false
set_option maxRecDepth 100000
set_option maxHeartbeats 1000000
namespace Ev
open PySem L2
structure Txt (T : Tx) (P : Program) (w : World) (mg : Str → Option Value) (W0 : Wd) : Prop where
  tx : TxOk T
  blt : ∀ x ∈ bltNames,mg x = none
  glob : ∀ x i,W0.glob x = some i → ∃ t,mg x = some (.int i t)
  ty : ∀ t c b,tyTab t c = some b → PySem.W.kitOne T.K (.type t) (.type c) = some b
  exi : ExcI T W0 mg
  xcls : ∀ c,W0.exn c = true → ∃ C,T.cv c = .ref C ∧ XCls T.K mg c C
section
variable {T : Tx} {P : Program} {w : World} {mg : Str → Option Value} {base : Heap} {W : Wd} {k : Nat}
theorem sok_cx {qual : Str} {scope : Scope} {f : Addr} {cdv : Value} {A : Around} {outer : List PySem.Env} {s : Shared} {H : Hp} {E : XK} {N ps : List Str} (X0 : Txt T P w mg W) (S : FnScope N ps scope) (calls : ∀ f fn,W.F f = some fn → CallIn T P w mg base k f fn)
    (hr : Room k (A.deeper (PyProof.Rows.envOfC qual scope s.heap.objs.size f cdv))) : SOk T W true k (cxOf (CX1 P w) P w T.K mg base N qual scope f cdv A outer s H E) N scope.names E where
  x := {
    hK := rfl
    hN := rfl
    tx := X0.tx
    vis := fun x h => by
      unfold isVis at h
      rw [Bool.and_eq_true] at h
      have h := h.2
      unfold kindIn at h
      show Vis scope x
      unfold Vis
      split at h
      · rename_i e; exact .inl e
      · rename_i e; exact .inr (.inl e)
      · rename_i e; exact .inr (.inr e)
      · cases h
    gl := fun x h => by
      unfold isGl at h
      rw [Bool.and_eq_true] at h
      have h := h.2
      unfold kindIn at h
      show scope.names.lookup x = some .globalImplicit
      split at h
      · rename_i e; exact e
      · cases h
    kinds := fun x h => h
    calm := fun _ => rfl
    room := fun _ => hr
    units := by have := hr.un; show (A.deeper (PyProof.Rows.envOfC qual scope s.heap.objs.size f cdv)).units + 30 < cLine; lia
    call := calls
    blt := X0.blt
    glob := X0.glob
    pass := passes_cx fun _ _ _ z => z
    ty := X0.ty
    exi := X0.exi
    }
  nd := S.nd
  loc := fun x h => by
    refine ⟨?_,.inl rfl⟩
    unfold isLoc kindIn at h
    show L2.Loc scope x
    unfold L2.Loc
    split at h
    · rename_i e; exact .inl e
    · rename_i e; exact .inr e
    · cases h
  locs := fun x h => h
  kindF := S.kind
  raises := raises_cx
  xcls := X0.xcls
theorem ents_ok {H : Hp} {Pr : Addr → Prop} {N : List Str} {fl : List Bool} {ds : List D} {vs : List V} (hl : ds.length ≤ N.length) (rs : Reps T H (fun _ => True) ds vs) (hf : FlowOk T H Pr fl ds vs) :
    EnvOk T ⟨H,Pr,fun _ => False,fun _ => False⟩ [] (entsOf fl ds ++ List.replicate (N.length - ds.length) none) (L2.start N vs) H := by
  have len : ∀ (fl : List Bool) (ds : List D),(entsOf fl ds).length = ds.length := fun fl ds => by
    induction ds generalizing fl with
    | nil => cases fl <;> rfl
    | cons d ds ih => cases fl <;> simp [entsOf,ih]
  have lv := rs.length
  have ent : ∀ (fl : List Bool) (ds : List D) (vs : List V),Reps T H (fun _ => True) ds vs → FlowOk T H Pr fl ds vs → ∀ (i : Nat) (e : Ent),(entsOf fl ds)[i]? = some (some e) → ∃ v,vs[i]? = some v ∧ EntOk T ⟨H,Pr,fun _ => False,fun _ => False⟩ H e v := by
    intro fl ds
    induction ds generalizing fl with
    | nil => intro vs _ _ i e q; cases fl <;> simp [entsOf] at q
    | cons d ds ih =>
      intro vs rs hf i e q
      obtain ⟨v,vs',rfl,r,rs'⟩ := rs
      have old : EntOk T ⟨H,Pr,fun _ => False,fun _ => False⟩ H ⟨d,false,.old⟩ v := ⟨fun z => (by cases z),fun z => (by cases z),fun _ => r.imp fun b _ => ⟨id,fun z => (by cases z)⟩⟩
      cases fl with
      | nil =>
        cases i with
        | zero => simp only [entsOf,List.getElem?_cons_zero,Option.some.injEq] at q; subst q; exact ⟨v,rfl,old⟩
        | succ i => exact ih [] vs' rs' trivial i e (by simpa [entsOf] using q)
      | cons f fl =>
        cases i with
        | zero =>
          simp only [entsOf,List.getElem?_cons_zero,Option.some.injEq] at q
          subst q
          refine ⟨v,rfl,?_⟩
          cases f with
          | false => exact old
          | true => exact ⟨fun z => (by cases z),fun z => (by cases z),fun _ => (hf.1 rfl).imp fun b z => ⟨id,fun _ => .inr z⟩⟩
        | succ i => exact ih fl vs' rs' hf.2 i e (by simpa [entsOf] using q)
  refine ⟨Same.refl _,fun a z => z.elim,fun a z => z.elim,fun i e q => ?_,fun i j e e' ne q q' o o' => ?_,fun g z => (by cases z),?_⟩
  · by_cases hi : i < ds.length
    · rw [List.getElem?_append_left (by rw [len]; exact hi)] at q
      obtain ⟨v,h1,h2⟩ := ent fl ds vs rs hf i e q
      refine ⟨v,?_,h2⟩
      unfold L2.start
      rw [List.getElem?_append_left (by rw [List.length_map,lv]; exact hi),List.getElem?_map,h1]; rfl
    · rw [List.getElem?_append_right (by rw [len]; omega),List.getElem?_replicate] at q
      split at q <;> cases q
  · have no : ∀ (fl : List Bool) (ds : List D) (i : Nat) (e : Ent),(entsOf fl ds)[i]? = some (some e) → e.own = false := by
      intro fl ds
      induction ds generalizing fl with
      | nil => intro i e q; cases fl <;> simp [entsOf] at q
      | cons d ds ih =>
        intro i e q
        cases fl <;> cases i <;> simp [entsOf] at q
        · subst q; rfl
        · exact ih [] _ e q
        · subst q; rfl
        · exact ih _ _ e q
    by_cases hi : i < ds.length
    · rw [List.getElem?_append_left (by rw [len]; exact hi)] at q
      rw [no fl ds i e q] at o; cases o
    · rw [List.getElem?_append_right (by rw [len]; omega),List.getElem?_replicate] at q
      split at q <;> cases q
  · unfold L2.start
    simp [len,lv]
theorem fn_ok {x qual : Str} {st : Stmt} {f : Addr} {fd : FuncData} {N ps : List Str} {n : Nat} {mu : List Str} {ss : List Sx} {fn : Fn} (X0 : Txt T P w mg W) (F : Fun T.K x qual st f fd) (S : FnScope N ps (defScope st)) (htr : trs (trS true n N (defScope st).names mu) (defBody st) = some ss)
    (calls : ∀ f fn,W.F f = some fn → CallIn T P w mg base k f fn) (hm : ∀ ds r,fn.m ds = some r → ds.length = ps.length ∧ evFn W N.length fn.fl ss ds = some r) : FnOk P w T.K mg base (CX1 P w) (k + 1) f fd ps (spD T fn) := by
  refine F.ok1 S (fun vs H Q E h => ?_) (fun cdv A outer s H vs Q E hr h => ?_)
  · obtain ⟨ds,r,Pr,rs,_,e,_⟩ := h
    rw [rs.length]; exact (hm ds r e).1
  · obtain ⟨ds,r,Pr,rs,hf,e,q⟩ := h
    obtain ⟨hl,ev⟩ := hm ds r e
    have O := sok_cx (outer:=outer) (H:=H) (E:=E) X0 S calls hr
    have many : ∀ {sts : List Stmt} {ss : List Sx},trs (trS true n N (defScope st).names mu) sts = some ss → SndSs T W (cxOf (CX1 P w) P w T.K mg base N qual (defScope st) f cdv A outer s H E) E sts ss := by
      intro sts
      induction sts with
      | nil => intro ss h; cases h; exact sndSs_nil
      | cons st sts ih =>
        intro ss h
        unfold trs at h
        split at h
        · rename_i s1 l h1 h2
          cases h
          exact sndSs_cons (snd_S n O _ _ h1) (ih h2)
        · cases h
    obtain ⟨t,pt,dt⟩ := many htr
    refine ⟨t,pt,?_⟩
    have hpl : ps.length ≤ N.length := by have := congrArg List.length S.pre; rw [List.length_take] at this; omega
    unfold evFn at ev
    cases eo : evSs W (entsOf fn.fl ds ++ List.replicate (N.length - ds.length) none) ss with
    | none => rw [eo] at ev; cases ev
    | some o =>
      rw [eo] at ev
      refine dt ⟨H,Pr,fun _ => False,fun _ => False⟩ [] _ _ H o _ eo (ents_ok (by omega) rs hf) ?_
      cases o with
      | nx ρ' =>
        cases ev
        intro Γ' σ' H' e1 e2 hE
        have s1 := hE.same
        rw [e1] at s1
        exact q .non H' s1 rfl
      | rt d t =>
        simp only [endR] at ev
        intro v H' s1 rd
        split at ev
        · cases ev; exact q v H' s1 (rd.imp fun b z => .inl z)
        · cases ev; exact q v H' s1 rd
        · cases ev
      | exc c => cases ev; exact q
theorem call_of {x : Str} {f : Addr} {fd : FuncData} {ps : List Str} {fn : Fn} {j : Nat} (G : FnOk P w T.K mg base (CX1 P w) j f fd ps (spD T fn)) (hjk : j ≤ k) (hm : mg x = some (.ref f)) (hk : PySem.W.keepIn T.K (.ref f) = true) (hb : Binds T.K fd ps []) : CallIn T P w mg base k x fn := by
  intro X eP ew eK em eb hr E hp hg hd e es t p pos ha hs hpl
  subst eP ew em eb
  rw [← eK] at G hk hb
  exact pe_call G (hr.mono hjk) hg hm hk hb .nil hp ha hd hs hpl
end
end Ev
set_option Elab.async false
set_option maxRecDepth 100000
set_option maxHeartbeats 1000000
namespace Ev
open PySem L2
section
variable {T : Tx} {P : Program} {w : World} {mg : Str → Option Value} {base : Heap} {k : Nat}
theorem CallIn.mono {x : Str} {fn : Fn} {j : Nat} (h : CallIn T P w mg base j x fn) (hjk : j ≤ k) : CallIn T P w mg base k x fn :=
  fun X e1 e2 e3 e4 e5 hr => h X e1 e2 e3 e4 e5 (hr.mono hjk)
theorem calls_of {l : List (Str × Fn)} (h : ∀ p ∈ l,CallIn T P w mg base k p.1 p.2) : ∀ f fn,Fl l f = some fn → CallIn T P w mg base k f fn := fun f fn e => h (f,fn) (PySem.mem_of_lookup e)
theorem all_nil {α : Type} {p : α → Prop} : ∀ x ∈ ([] : List α),p x := fun x h => by cases h
theorem all_cons {α : Type} {p : α → Prop} {a : α} {l : List α} (h : p a) (t : ∀ x ∈ l,p x) : ∀ x ∈ a :: l,p x := fun x hx => by
  rcases List.mem_cons.mp hx with rfl | hx
  · exact h
  · exact t x hx
theorem def_call {x : Str} {st : Stmt} {f : Addr} {fd : FuncData} {N ps : List Str} {n : Nat} {mu : List Str} {ss : List Sx} {l : List (Str × Fn)} {W : Wd} {fl : List Bool} {np m : Nat} (X0 : Txt T P w mg { W with F := Fl l }) (F : Fun T.K x x st f fd) (S : FnScope N ps (defScope st)) (hm : mg x = some (.ref f)) (hb : Binds T.K fd ps [])
    (htr : trs (trS true n N (defScope st).names mu) (defBody st) = some ss) (hn : np = ps.length) (hN : m = N.length) (calls : ∀ p ∈ l,CallIn T P w mg base k p.1 p.2) : CallIn T P w mg base (k + 1) x (mkFn { W with F := Fl l } np m fl ss) := by
  subst hn hN
  refine call_of (fn_ok (fn:=mkFn { W with F := Fl l } ps.length N.length fl ss) X0 F S htr (calls_of calls) fun ds r e => ?_) (Nat.le_refl _) hm F.kp hb
  simp only [mkFn] at e ⊢
  split at e
  · rename_i h; exact ⟨h,e⟩
  · cases e
theorem mt : ¬ (("many" : Str) = "ties") := by decide +kernel
theorem flds_eq (n : Int) (l : Addr) : putF "ties" (.ref l) (putF "many" (.int n) []) = ([("many",V.int n),("ties",V.ref l)] : List (Str × V)) := by
  show (if ("many" : Str) = "ties" then [(("many" : Str),V.ref l)] else (("many" : Str),V.int n) :: putF "ties" (V.ref l) []) = _
  rw [if_neg mt]
  rfl
def spInit (T : Tx) (chk : Fn) : Sp := fun vs H Q E => ∃ (x dx : Addr) (n : Int) (ts : List D) (v : V) (r : R),vs = [.ref x,.int n,v] ∧ H x = some (.ins T.CT dx []) ∧ Rep T H (fun _ => True) (.lst ts) v ∧ lfs ts = true ∧ chk.fl = [] ∧ chk.m [.int n,.lst ts] = some r ∧
  (match r with
    | .ok _ => ∀ (l : Addr) (xs : List V) (H' : Hp),H l = none → H' x = some (.ins T.CT dx [("many",.int n),("ties",.ref l)]) → H' l = some (.lst xs) → Reps T H' (fun _ => True) ts xs → (∀ b o,H b = some o → b ≠ x → H' b = some o) → Q .non H'
    | .exc c => ∀ H',Same H H' → E (T.cv c) none H')
end
mutual
theorem Rep.tups {T : Tx} {H H' : Hp} {C C' : Addr → Prop} (hH : ∀ b o,H b = some o → NotL o → (∀ C dx fs,o ≠ .ins C dx fs) → H' b = some o) : ∀ (d : D) (v : V),lf d = true → Rep T H C d v → Rep T H' C' d v
  | .non,v,_,h => h
  | .bl _,v,_,h => h
  | .int _,v,_,h => h
  | .str _,v,_,h => h
  | .lst ds,v,l,h => by simp [lf] at l
  | .tup ds,v,l,h => by
    obtain ⟨a,xs,e,q,r⟩ := h
    refine ⟨a,xs,e,?_,Reps.tups hH ds xs (by simpa [lf] using l) r⟩
    rcases q with (q | ⟨o,q⟩) | q
    · exact .inl (.inl (hH _ _ q (fun _ z => nomatch z) (fun _ _ _ z => nomatch z)))
    · exact .inl (.inr ⟨o,hH _ _ q (fun _ z => nomatch z) (fun _ _ _ z => nomatch z)⟩)
    · exact .inr q
  | .tree n ts,v,l,h => by simp [lf] at l
  | .scr ns,v,_,h => by
    obtain ⟨a,e,q⟩ := h
    exact ⟨a,e,q.imp (fun ⟨o,q⟩ => ⟨o,hH _ _ q (fun _ z => nomatch z) (fun _ _ _ z => nomatch z)⟩) id⟩
  | .exc c,v,_,h => by
    obtain ⟨a,e,q⟩ := h
    exact ⟨a,e,hH _ _ q (fun _ z => nomatch z) (fun _ _ _ z => nomatch z)⟩
theorem Reps.tups {T : Tx} {H H' : Hp} {C C' : Addr → Prop} (hH : ∀ b o,H b = some o → NotL o → (∀ C dx fs,o ≠ .ins C dx fs) → H' b = some o) : ∀ (ds : List D) (vs : List V),lfs ds = true → Reps T H C ds vs → Reps T H' C' ds vs
  | [],vs,_,h => h
  | d :: ds,vs,l,h => by
    obtain ⟨w,ws,e,r,rs⟩ := h
    simp only [lfs,Bool.and_eq_true] at l
    exact ⟨w,ws,e,Rep.tups hH d w l.1 r,Reps.tups hH ds ws l.2 rs⟩
end
section
variable {T : Tx} {P : Program} {w : World} {mg : Str → Option Value} {base : Heap} {k : Nat}
structure InitOk (st : Stmt) : Prop where
  sc : FnScope ["self","many","ties"] ["self","many","ties"] (defScope st)
  body : ∃ p1 p2 p3 p4 p5 p6 p7 p8 p9 p10 p11 p12 p13 p14 p15,defBody st = [.Expr (.Call (.Name "check_tree" p1) [.Name "many" p2,.Name "ties" p3] [] p4) p5,.Assign [.Attribute (.Name "self" p6) "many" p7] (.Name "many" p8) p9,
    .Assign [.Attribute (.Name "self" p10) "ties" p11] (.Call (.Name "list" p12) [.Name "ties" p13] [] p14) p15]
  v0 : (defScope st).names.lookup ("self" : Str) = some .local
  v1 : (defScope st).names.lookup ("many" : Str) = some .local
  v2 : (defScope st).names.lookup ("ties" : Str) = some .local
  g1 : (defScope st).names.lookup ("check_tree" : Str) = some .globalImplicit
  g2 : (defScope st).names.lookup ("list" : Str) = some .globalImplicit
theorem ok_init {st : Stmt} {f : Addr} {fd : FuncData} {chk : Fn} {W : Wd} (X0 : Txt T P w mg W) (I : InitOk st) (F : Fun T.K "__init__" "Tree.__init__" st f fd) (cc : CallIn T P w mg base k "check_tree" chk) : FnOk P w T.K mg base (CX1 P w) (k + 1) f fd ["self","many","ties"] (spInit T chk) := by
  refine F.ok1 I.sc (fun vs H Q E h => ?_) (fun cdv A outer s H vs Q E hr h => ?_)
  · obtain ⟨x,dx,n,ts,v,r,rfl,_⟩ := h
    rfl
  · obtain ⟨x,dx,n,ts,v,r,rfl,hx,rv,hl,hfl,hm,q⟩ := h
    obtain ⟨p1,p2,p3,p4,p5,p6,p7,p8,p9,p10,p11,p12,p13,p14,p15,hb⟩ := I.body
    rw [hb]
    let X := cxOf (CX1 P w) P w T.K mg base ["self","many","ties"] "Tree.__init__" (defScope st) f cdv A outer s H E
    have pv0 : ∀ p,PE X (.Name "self" p) (tVar 0) := fun p => pe_var rfl (.inl I.v0) (by decide +kernel) (by decide +kernel)
    have pv1 : ∀ p,PE X (.Name "many" p) (tVar 1) := fun p => pe_var rfl (.inl I.v1) (by decide +kernel) (by decide +kernel)
    have pv2 : ∀ p,PE X (.Name "ties" p) (tVar 2) := fun p => pe_var rfl (.inl I.v2) (by decide +kernel) (by decide +kernel)
    have c1 : PE X (.Call (.Name "check_tree" p1) [.Name "many" p2,.Name "ties" p3] [] p4) _ := cc X rfl rfl rfl rfl rfl hr E (passes_cx fun _ _ _ z => z) I.g1 (by decide +kernel) _ _ _ _ _ (pa_cons (pv1 _) (pa_cons (pv2 _) pa_nil rfl) rfl) rfl rfl
    have c2 : PE X (.Call (.Name "list" p12) [.Name "ties" p13] [] p14) _ := pe_callTy call_list_of I.g2 (X0.blt _ (by decide +kernel)) (by decide +kernel) (pa_cons (pv2 _) pa_nil rfl) (by decide +kernel) (by decide +kernel) rfl rfl
    refine ⟨_,pss_cons (ps_expr c1 rfl) (pss_cons (ps_fld (pv0 _) (pv1 _) rfl) (pss_one (ps_fld (pv0 _) c2 rfl))),?_⟩
    obtain ⟨p,xs,rfl,_,hp,rs⟩ := rv
    refine ⟨.int n,rfl,.ref p,rfl,?_⟩
    refine ⟨[.int n,.lst ts],r,fun _ => True,⟨_,_,rfl,rfl,_,_,rfl,⟨p,xs,rfl,trivial,hp,rs⟩,rfl⟩,by rw [hfl]; unfold FlowOk; trivial,hm,?_⟩
    cases r with
    | exc c => exact q
    | ok d =>
      intro v' H1 s1 _
      have npx : p ≠ x := ne_of hp hx (by intro z; cases z)
      refine ⟨.int n,rfl,.ref x,rfl,x,T.CT,dx,[],rfl,s1 _ _ hx,X0.tx.cl,X0.tx.nM,(by show 0 < 1000; decide),?_⟩
      refine ⟨.ref p,rfl,p,xs,rfl,.inl (SqL.of (by rw [upd_ne npx]; exact s1 _ _ hp)),fun l hl' => ?_⟩
      have nlx : x ≠ l := ne_of_none upd_same hl'
      refine ⟨.ref x,rfl,x,T.CT,dx,_,rfl,by rw [upd_ne nlx,upd_same],X0.tx.cl,X0.tx.nT,(by show 1 < 1000; decide),?_⟩
      have hl1 : H1 l = none := by rw [upd_ne nlx.symm] at hl'; exact hl'
      refine q l xs _ (s1.free hl1) ?_ ?_ ?_ fun b o e nb => ?_
      · rw [upd_same,flds_eq]
      · rw [upd_ne nlx.symm,upd_same]
      · refine Reps.tups (fun b o e nL nI => ?_) ts xs hl rs
        have nb : b ≠ x := fun z => by subst z; rw [hx] at e; cases e; exact nI _ _ _ rfl
        have nb' : b ≠ l := fun z => by subst z; rw [s1.free hl1] at e; cases e
        rw [upd_ne nb,upd_ne nb',upd_ne nb]
        exact s1 _ _ e
      · have nb' : b ≠ l := fun z => by subst z; rw [s1.free hl1] at e; cases e
        rw [upd_ne nb,upd_ne nb',upd_ne nb]
        exact s1 _ _ e
theorem tree_step {chk : Fn} {Q : VK} {E : XK} {vs : List V} {H1 : Hp} (hfl : chk.fl = []) (sp : spD T (treeFn chk) (vs ++ []) H1 Q E) (x dx : Addr) (nx : H1 x = none) (ndx : H1 dx = none) (nex : dx ≠ x) : spInit T chk (.ref x :: (vs ++ [])) (L2.upd (L2.upd H1 dx (.own x)) x (.ins T.CT dx [])) (fun v H2 => v = .non ∧ Q (.ref x) H2) E := by
  obtain ⟨ds,r,Pr,rs,_,hm,q⟩ := sp
  have s0 : Same H1 (L2.upd (L2.upd H1 dx (.own x)) x (.ins T.CT dx [])) := fun b o e => by
    rw [upd_ne (ne_of_none e nx),upd_ne (ne_of_none e ndx)]; exact e
  have fin : ∀ (n : Int) (ts : List D) (v : V),Rep T H1 (fun _ => True) (.lst ts) v → lfs ts = true → r = .ok (.tree n ts) → ∀ (l : Addr) (xs : List V) (H' : Hp),(L2.upd (L2.upd H1 dx (.own x)) x (.ins T.CT dx [])) l = none → H' x = some (.ins T.CT dx [("many",.int n),("ties",.ref l)]) → H' l = some (.lst xs) → Reps T H' (fun _ => True) ts xs → (∀ b o,(L2.upd (L2.upd H1 dx (.own x)) x (.ins T.CT dx [])) b = some o → b ≠ x → H' b = some o) → V.non = V.non ∧ Q (.ref x) H' := fun n ts v rv hl hr' l xs H' h1 h2 h3 h4 h5 => by
    subst hr'
    refine ⟨rfl,q (.ref x) H' (fun b o e => h5 b o (s0 b o e) (ne_of_none e nx)) ?_⟩
    exact ⟨x,dx,l,xs,rfl,.inl (s0.free h1),h2,h3,Reps.free ts xs hl h4⟩
  unfold treeFn at hm
  dsimp only at hm
  split at hm
  · rename_i n ts _
    obtain ⟨v1,vs1,e1,hv1,v2,vs2,rfl,hv2,rfl⟩ := rs
    cases hv1
    split at hm
    · rename_i hl
      split at hm
      · rename_i d hc
        cases hm
        exact ⟨x,dx,n,ts,v2,.ok d,by rw [e1],upd_same,hv2.same s0,hl,hfl,hc,fin n ts v2 hv2 hl rfl⟩
      · rename_i c hc
        cases hm
        exact ⟨x,dx,n,ts,v2,.exc c,by rw [e1],upd_same,hv2.same s0,hl,hfl,hc,fun H' s' => q H' (s0.trans s')⟩
      · cases hm
    · cases hm
  · cases hm
theorem call_tree {st : Stmt} {f : Addr} {fd : FuncData} {chk : Fn} {W : Wd} (X0 : Txt T P w mg W) (In : InitOk st) (F : Fun T.K "__init__" "Tree.__init__" st f fd) (hb : Binds T.K fd ["self","many","ties"] []) (M : Mk T.K T.CT f) (hC : mg "Tree" = some (.ref T.CT)) (hfl : chk.fl = []) (cc : CallIn T P w mg base k "check_tree" chk) :
    CallIn T P w mg base (k + 2) "Tree" (treeFn chk) := by
  intro X eP ew eK em eb hr E hp hg hd e es t p pos ha hs hpl
  subst eP ew em eb
  have G := ok_init X0 In F cc
  rw [← eK] at G hb M
  intro pins s σ H Q I h
  refine wpAny_Call_Name_kw (ld_glob I hg hC ?_ hd)
  refine PySem.W.callWith_K (h₀ := X.base) I.ok.mod.kin M.kp (thn (ha pos pins s σ H _ I h) fun us s1 ⟨vs,H1,I1,r,q⟩ => ⟨I1.kIn,?_⟩) hs hpl
  exact run_make M G hr hb .nil hp I1 r (tree_step hfl q)
end
end Ev
set_option Elab.async false
set_option maxRecDepth 100000
set_option maxHeartbeats 1000000
namespace Ev
open PySem L2
theorem ty_all (K : PySem.W.Frag) : ∀ t c b,tyTab t c = some b → PySem.W.kitOne K (.type t) (.type c) = some b := by
  intro t c b h
  unfold tyTab at h
  split at h
  · rename_i e; subst e; cases h; unfold PySem.W.kitOne; rw [if_pos (by simp)]
  · rename_i ne
    split at h
    · rename_i e; obtain ⟨rfl,rfl⟩ := e; cases h; rfl
    · rename_i nb
      split at h
      · rename_i hm
        cases h
        rw [Bool.and_eq_true,List.contains_iff_mem,List.contains_iff_mem] at hm
        obtain ⟨h1,h2⟩ := hm
        simp only [List.mem_cons,List.not_mem_nil,or_false] at h1 h2
        rcases h1 with rfl | rfl | rfl | rfl | rfl <;> rcases h2 with rfl | rfl | rfl | rfl <;> first | exact absurd rfl ne | exact absurd ⟨rfl,rfl⟩ nb | rfl
      · cases h
def spLaw (K : PySem.W.Frag) : Sp := fun vs H Q _ => ∃ (a : Addr) (ns : List Int),vs = [.ref a] ∧ Only H ∧ SqL K H a (ns.map V.int) ∧ ns.length ≤ 63 ∧ ∀ H',Q (.bl true) H'
theorem law_imp {T : Tx} {P : Program} {w : World} {mg : Str → Option Value} {base : Heap} {k : Nat} {f : Addr} {fd : FuncData} {fn : Fn} (hfl : fn.fl = []) (hm : ∀ ns : List Int,ns.length ≤ 63 → fn.m [.scr ns] = some (.ok (.bl true))) (G : FnOk P w T.K mg base (CX1 P w) k f fd ["script"] (spD T fn)) :
    FnOk P w T.K mg base (CX1 P w) k f fd ["script"] (spLaw T.K) := G.imp fun vs H Q E ⟨a,ns,e,hO,hS,hl,q⟩ => by
  subst e
  refine ⟨[.scr ns],.ok (.bl true),fun _ => True,⟨_,_,rfl,⟨a,rfl,?_⟩,rfl⟩,by rw [hfl]; unfold FlowOk; trivial,hm ns hl,fun v H' _ r => ?_⟩
  · rcases hS with (h | h) | h
    · rcases hO a with z | ⟨o,xs,z⟩ <;> rw [z] at h <;> cases h
    · exact .inl h
    · exact .inr h
  · rw [show v = .bl true from r]; exact q H'
theorem cx1_no {P : Program} {w : World} {H : Hp} {s : Shared} {e : Value} {s' : Shared} (h : CX1 P w [] H s (fun _ _ _ => False) e s') : False := by
  obtain ⟨_,_,_,_,_,_,_,_,_,z⟩ := h
  exact z
theorem walk {l : PySem.W.OpenLaw} {q : Program} {loose : List Str} {XP : (Str → Option Value) → Heap → Prop} {YP : World → Heap → Prop} {d : DefRec} {K : Params → PySem.W.Frag} (hn : l.most = some 63) (hdf : d.params.defaults = [])
    (hY : ∀ (w : World) (h : Heap),YP w h → (K w.params).In h)
    (F : ∀ (w : World) (mg : Str → Option Value) (fa : Addr) (h : Heap),(K w.params).In h → h.Ns mainGlobals mg → mg d.name = some (.ref fa) →
      ∃ fd : FuncData,(∀ (s : Shared) (u : Value),BindsTo s fd ⟨[u],[]⟩ [("script",u)]) ∧ ∀ base : Heap,(K w.params).In base → base.Ns mainGlobals mg → FnOk l.prog w (K w.params) mg base (CX1 l.prog w) 60 fa fd ["script"] (spLaw (K w.params))) :
    PySem.W.WalkO q loose XP YP l.row.toRowW d [] (fun f vs => PySem.call f vs) :=
  L2.walk_of (n:=63) (k:=60) (x:="script") (CX:=fun w => CX1 l.prog w) (sp:=fun w => spLaw (K w.params)) hn (by decide) hdf ⟨rfl,by decide,by decide⟩ hY F (fun _ _ a ns hl hO hS => ⟨a,ns,rfl,hO,hS,hl,fun _ => rfl⟩) fun _ _ _ _ _ z => cx1_no z
end Ev
set_option Elab.async false
set_option maxRecDepth 100000
set_option maxHeartbeats 1000000
namespace Ev
open PySem L2
theorem len5 {α : Type} {l : List α} (h : l.length = 5) : ∃ a b c d e,l = [a,b,c,d,e] := by
  obtain ⟨a,r,rfl,h1⟩ := lcons h
  obtain ⟨b,c,d,e,rfl⟩ := len4 h1
  exact ⟨a,b,c,d,e,rfl⟩
def retOf (s : Stmt) : Option Expr := (sRet s).bind fun q => q.1.1
theorem retOf_eq {s : Stmt} {e : Expr} (h : retOf s = some e) : ∃ p,s = .Return (some e) p := by
  obtain ⟨q,_,h'⟩ := bndI h
  have := q.2
  rw [h'] at this
  exact ⟨_,this⟩
def hOf : ExceptHandler → Option (Str × Str × Expr)
  | .ExceptHandler t n b _ => t.bind fun t => n.bind fun n => (oneOf b).bind fun s => (nameOf t).bind fun x => (retOf s).map fun e => (x,n,e)
theorem hOf_eq {h : ExceptHandler} {q : Str × Str × Expr} (e : hOf h = some q) : ∃ p1 p2 p3,h = .ExceptHandler (some (.Name q.1 p1)) (some q.2.1) [.Return (some q.2.2) p2] p3 := by
  cases h with
  | ExceptHandler t n b p3 =>
    obtain ⟨t,rfl,e1⟩ := bndI e
    obtain ⟨n,rfl,e2⟩ := bndI e1
    obtain ⟨s,hs,e3⟩ := bndI e2
    obtain ⟨x,hx,e4⟩ := bndI e3
    obtain ⟨r,hr,e5⟩ := mapI e4
    clear e e1 e2 e3 e4
    cases e5
    obtain ⟨p1,z1⟩ := nameOf_eq hx
    obtain ⟨p2,z2⟩ := retOf_eq hr
    exact ⟨p1,p2,p3,by rw [oneOf_eq hs,z1,z2]⟩
section
variable {T : Tx} {W : Wd} {cm : Bool} {k : Nat} {X : Cx} {N : List Str} {sc : List (Str × NameKind)} {E : XK}
def CallAt (T : Tx) (P : Program) (w : World) (mg : Str → Option Value) (base : Heap) (k : Nat) (x : Str) (fn : Fn) : Prop := ∀ (X : Cx),X.prog = P → X.w = w → X.K = T.K → X.mg = mg → X.base = base → Room k X.A → ∀ (pins : List (Addr × Obj)) (σ : St) (E : XK),PassAt (CX1 P w) X pins σ E → Gl X x → (x == ("__debug__" : Str)) = false →
  ∀ (e : Expr) (es : List Expr) (t : TA) (p pos : Pos),PA X (e :: es) t → starEach (e :: es) X.env = (false,eval e X.env) :: starEach es X.env → (backTo pos (starEach es X.env)).any (·.1) = false → ES X pins σ (.Call (.Name x p) (e :: es) [] pos) (tCall (spD T fn) [] E t)
theorem callAt_of {P : Program} {w : World} {mg : Str → Option Value} {base : Heap} {x : Str} {f : Addr} {fd : FuncData} {ps : List Str} {fn : Fn} {j : Nat} (G : FnOk P w T.K mg base (CX1 P w) j f fd ps (spD T fn)) (hjk : j ≤ k) (hm : mg x = some (.ref f)) (hk : PySem.W.keepIn T.K (.ref f) = true) (hb : Binds T.K fd ps []) : CallAt T P w mg base k x fn := by
  intro X eP ew eK em eb hr pins σ E hp hg hd e es t p pos ha hs hpl
  subst eP ew em eb
  rw [← eK] at G hk hb
  exact es_call G (hr.mono hjk) hg hm hk hb hp ha hd hs hpl
def tA0 (T : Tx) (W : Wd) (xs : List Ex) : TA := fun σ H Q => ∃ (Γ : Ctx) (G : List Gh) (ρ : Env) (ds : List D) (ts : List Tag),evEs W ρ xs = some (.ok ds ts) ∧ EnvOk T Γ G ρ σ H ∧ ∀ vs H',Same H H' → RsOk T Γ H H' ds ts vs → Q vs H'
theorem SndA.pa0 {es : List Expr} {xs : List Ex} (h : SndA T W X E es xs) : PA X es (tA0 T W xs) := by
  obtain ⟨t,p,q⟩ := h
  exact fun pos pins s σ H Q I ⟨Γ,G,ρ,ds,ts,h1,h2,h3⟩ => p pos pins s σ H Q I (q Γ G ρ σ H _ Q h1 h2 h3)
theorem XOk.wish (O : XOk T W true k X N sc E) (Wsh : Value → Shared → Prop) : XOk T W true k (X.wish Wsh) N sc EN := ⟨O.hK,O.hN,O.tx,O.vis,O.gl,O.kinds,O.calm,O.room,O.units,O.call,O.blt,O.glob,pass1,O.ty
    ,O.exi
    ⟩
def BodyOk (T : Tx) (W : Wd) (X : Cx) (body : List Stmt) (tb : XK → TS) : Prop := ∀ (Wsh : Value → Shared → Prop) (pins : List (Addr × Obj)) (σ : St) (E' : XK),PassAt (CX1 X.prog X.w) (X.wish Wsh) pins σ E' → SSs (X.wish Wsh) pins σ body (tb E')
theorem den_evC {f : Str} {fn : Fn} {xs : List Ex} {Γ : Ctx} {G : List Gh} {ρ : Env} {σ : St} {H : Hp} {r : Res} {Q : VK} (hf : W.F f = some fn) (he : evC W ρ f xs = some r) (h : EnvOk T Γ G ρ σ H) (hp : Post T E Γ H Q r) : tCall (spD T fn) [] E (tA0 T W xs) σ H Q := by
  unfold evC at he
  rw [hf] at he
  dsimp only at he
  split at he
  · rename_i ds ts e
    refine ⟨Γ,G,ρ,ds,ts,e,h,fun vs H1 s ok => ?_⟩
    show spD T fn (vs ++ []) H1 Q E
    rw [List.append_nil]
    unfold callR at he
    split at he
    · cases he
    · rename_i c hm
      cases he
      exact ⟨ds,.exc c,fun _ => True,ok.any,flow_any ok,hm,fun H' s' => hp H' (s.trans s')⟩
    · rename_i d hm
      split at he
      · rename_i t ht
        cases he
        obtain ⟨q,no⟩ := flow_tag h ht ok
        refine ⟨ds,.ok d,TC Γ H t,ok.any,q,hm,fun v H' s' r' => hp v H' (s.trans s') (ROk.rt (ROk.of (r'.imp fun b z => ?_) no))⟩
        rcases z with z | z
        · exact TC.fresh h (s.free z)
        · exact z
      · cases he
  · cases he
theorem def_callT {P : Program} {w : World} {mg : Str → Option Value} {base : Heap} {x : Str} {st : Stmt} {f : Addr} {fd : FuncData} {ps : List Str} {n : Nat} {mu : List Str} {ss : List Sx} {l : List (Str × Fn)} {fl : List Bool} {np m : Nat} (X0 : Txt T P w mg { W with F := Fl l }) (F : Fun T.K x x st f fd) (S : FnScope N ps (defScope st)) (hm : mg x = some (.ref f)) (hb : Binds T.K fd ps [])
    (htr : trs (trS true n N (defScope st).names mu) (defBody st) = some ss) (hn : np = ps.length) (hN : m = N.length) (calls : ∀ p ∈ l,CallIn T P w mg base k p.1 p.2) : CallAt T P w mg base (k + 1) x (mkFn { W with F := Fl l } np m fl ss) := by
  subst hn hN
  refine callAt_of (fn_ok (fn:=mkFn { W with F := Fl l } ps.length N.length fl ss) X0 F S htr (calls_of calls) fun ds r e => ?_) (Nat.le_refl _) hm F.kp hb
  simp only [mkFn] at e ⊢
  split at e
  · rename_i h; exact ⟨h,e⟩
  · cases e
theorem CallAt.mono {P : Program} {w : World} {mg : Str → Option Value} {base : Heap} {x : Str} {fn : Fn} {j : Nat} (h : CallAt T P w mg base j x fn) (hjk : j ≤ k) : CallAt T P w mg base k x fn :=
  fun X e1 e2 e3 e4 e5 hr => h X e1 e2 e3 e4 e5 (hr.mono hjk)
def Hd (K : PySem.W.Frag) (x : Str) (st : Stmt) (f : Addr) : Prop := ∃ (od an : Option Addr) (sl : Array (Option Value)) (oc kV dc pm cd ct : Value),PySem.W.nsIn K mainGlobals x = some (some (.ref f)) ∧ K.lookup f = some ⟨oc,od,.func (PySem.W.fnOf x x (defArgs st) (defBody st) (defScope st) .none kV dc pm an cd ct),sl⟩ ∧ PySem.W.codeIn K cd x = true ∧ PySem.W.keepIn K (.ref f) = true
end
end Ev
set_option Elab.async false
set_option maxRecDepth 100000
set_option maxHeartbeats 1000000
namespace L2
open PySem PySem.Spec PyProof.Rows
theorem ss_expr {X : Cx} {pins : List (Addr × Obj)} {σ : St} {e : Expr} {te : TE} {pos : Pos} (he : ES X pins σ e te) (hs : swapsWith e none pos.line X.env = pure false := by rfl) : SS X pins σ (.Expr e pos) (tDrop te) :=
  fun s H D I h => wpAny_Expr_any (thn (he s H _ I h) fun v s1 ⟨x,H1,I1,r1,q1⟩ => ⟨σ,H1,I1,q1⟩) I.quiet hs
def FnH (P : Program) (w : World) (K : PySem.W.Frag) (mg : Str → Option Value) (base : Heap) (k : Nat) (f : Addr) (fd : FuncData) (ps : List Str) (sp : Sp) : Prop := ∀ (A : Around) (outer : List Env) (s : Shared) (H : Hp) (args : Args) (us : List Value) (vs : List V) (Q : VK) (a : Addr),
  Room k A → Env0 P w K mg base A outer s H → BindsTo s fd args (ps.zip us) → Vals vs us → vs.length = ps.length → sp vs H Q EN → codeAny (model P w) (A.mark (some (.ref a))) (.call (.ref f) args) (fun r s' => ∃ u,r = .ok (.ret u) ∧ CE outer P w H s Q u s') s
theorem fnH_of {x qual : Str} {st : Stmt} {P : Program} {w : World} {K : PySem.W.Frag} {mg : Str → Option Value} {base : Heap} {k : Nat} {f : Addr} {fd : FuncData} {N ps : List Str} {sp : Sp} (F : Fun K x qual st f fd) (S : FnScope N ps (defScope st))
    (hbody : ∀ (cdv : Value) (A : Around) (outer : List Env) (s : Shared) (H : Hp) (vs : List V) (Q : VK) (a : Addr),Room k (A.deeper (envOfC qual (defScope st) s.heap.objs.size f cdv)) → sp vs H Q EN →
      ∃ t,PSs ((cxOf (CX1 P w) P w K mg base N qual (defScope st) f cdv A outer s H EN).held a) (defBody st) t ∧ t { nx := fun _ H' => Q .non H',rt := Q } (start N vs) H) : FnH P w K mg base (k + 1) f fd ps sp := by
  obtain ⟨oc,od,kV,doc,pm,an,cdv,ct,osl,rfl,lk,hcd⟩ := F.ex
  intro A outer s H args us vs Q a hr e0 hb r hl hsp
  have KX : K.In s.heap := e0.mod.kin.keeps fun b o e => (e0.bs b o e).1
  have lim : s.heap.NoLimit := e0.mod.nolimit.keeps fun b o e => (e0.bs b o e).1
  have hkind : ∀ y ∈ ps.zip us,(defScope st).names.lookup y.1 = some .local ∨ ((defScope st).names.lookup y.1 = some .cell ∧ ((cellsFrom (s.heap.objs.size + 1) (defScope st).names []).lookup y.1).isSome = true) := fun y hy => by
    obtain ⟨n,v⟩ := y
    exact (S.par n (List.of_mem_zip hy).1).imp id fun q => ⟨q,PySem.W.cellsFrom_some _ _ _ (.inl q)⟩
  refine codeAny_call_function hr.depth (KX _ _ lk) rfl S.co S.gen rfl (PySem.W.codeRec_of KX hcd) (hb _ _ _ _ (wpAny_newFunctionEnv_cells S.kind hkind fun env he s1 x => ?_))
  subst he
  refine ⟨lim.keeps x.toInCall.keep,codeAny_func ?_⟩
  obtain ⟨t,ht,hq⟩ := hbody cdv A outer s H vs Q a (hr.deeper _) hsp
  have I : Inv (cxOf (CX1 P w) P w K mg base N qual (defScope st) f cdv A outer s H EN) [] (start N vs) H s1 := inv_start S hr.hd e0 hl r x
  refine wpAny_mono (ht [] s1 (start N vs) H _ (I.held a) hq) (fun fl s' hs => ?_) fun e s' hs => hs.elim
  have fin : ∀ {σ' : St} {H' : Hp} {v : V} {u : Value},Inv ((cxOf (CX1 P w) P w K mg base N qual (defScope st) f cdv A outer s H EN).held a) [] σ' H' s' → RelV v u → Q v H' → CE outer P w H s Q u s' :=
    fun {σ' H' v u} J rv q => ⟨v,H',J.os,J.bare,J.base,J.hok,rv,q⟩
  cases fl with
  | ret u => obtain ⟨v,σ',H',J,rv,q⟩ := hs; exact ⟨u,rfl,fin J rv q⟩
  | next => obtain ⟨σ',H',J,q⟩ := hs; exact ⟨.none,rfl,fin (v:=V.non) (u:=Value.none) J rfl q⟩
  | brk => obtain ⟨_,_,_,q⟩ := hs; exact q.elim
  | cont => obtain ⟨_,_,_,q⟩ := hs; exact q.elim
theorem pe_held {X : Cx} {k : Nat} {f a : Addr} {fd : FuncData} {ps : List Str} {sp : Sp} {x : Str} {p pos : Pos} {e : Expr} {es : List Expr} {t : TA} (F : FnH X.prog X.w X.K X.mg X.base k f fd ps sp) (hlen : ∀ vs H Q E,sp vs H Q E → vs.length = ps.length) (hr : Room k X.A) (hg : Gl X x) (hm : X.mg x = some (.ref f)) (hk : PySem.W.keepIn X.K (.ref f) = true) (hb : Binds X.K fd ps [])
    (ha : PA (X.held a) (e :: es) t) (hdb : (x == ("__debug__" : Str)) = false) (he : starEach (e :: es) X.env = (false,eval e X.env) :: starEach es X.env) (hpl : (backTo pos (starEach es X.env)).any (·.1) = false) : PE (X.held a) (.Call (.Name x p) (e :: es) [] pos) (tCall sp [] EN t) := by
  intro pins s σ H Q I h
  refine wpAny_Call_Name_kw (ld_glob (X:=X.held a) I hg hm (PySem.W.callWith_K (h₀ := X.base) I.ok.mod.kin hk (thn (ha pos pins s σ H _ I h) fun us s1 z => ?_) he hpl) hdb)
  obtain ⟨vs,H1,I1,r,q⟩ := z
  refine ⟨I1.kIn,?_⟩
  have r2 : Vals (vs ++ []) (us ++ []) := r.append .nil
  have hv := hlen _ _ _ _ q
  have z := I1.env0
  refine wpAny_call (codeAny_mono (F X.A X.stack s1 H1 ⟨us,[]⟩ (us ++ []) (vs ++ []) Q a hr ⟨z.frames,z.mod,z.bs,z.bsz,z.funs,z.frf,z.hok,z.bare⟩ (hb s1 us I1.kIn (by rw [← r2.length]; exact hv)) r2 hv q) fun r s' hq => ?_)
  obtain ⟨u,rfl,hq⟩ := hq
  exact I1.after hq
end L2
namespace Ev
open PySem L2
def trW (N : List Str) (sc : List (Str × NameKind)) : Nat → Stmt → Option Sx
  | 0,_ => none
  | n + 1,st =>
    alt (sAsg st) (fun q => (oneOf q.1.1).bind fun t => (nameOf t).bind fun x => if isLoc sc x then (slot N x).bind fun i => (trE false 30 N sc q.1.2.1).map (.asg i false) else none) <|
    alt (sRet st) (fun q => q.1.1.bind fun e => (trE false 30 N sc e).map .ret) <|
    (sIf st).bind fun q => (trE false 30 N sc q.1.1).bind fun t => (trs (trW N sc n) q.1.2.1).bind fun x => (trs (trW N sc n) q.1.2.2.1).map fun y => .ifs t x y
theorem trW_succ (N : List Str) (sc : List (Str × NameKind)) (n : Nat) (st : Stmt) : trW N sc (n + 1) st = (
    alt (sAsg st) (fun q => (oneOf q.1.1).bind fun t => (nameOf t).bind fun x => if isLoc sc x then (slot N x).bind fun i => (trE false 30 N sc q.1.2.1).map (.asg i false) else none) <|
    alt (sRet st) (fun q => q.1.1.bind fun e => (trE false 30 N sc e).map .ret) <|
    (sIf st).bind fun q => (trE false 30 N sc q.1.1).bind fun t => (trs (trW N sc n) q.1.2.1).bind fun x => (trs (trW N sc n) q.1.2.2.1).map fun y => .ifs t x y) := rfl
def exCall (N : List Str) (sc : List (Str × NameKind)) (s : Stmt) : Option (Str × List Ex) := (sExpr s).bind fun q => (callOf q.1.1).bind fun p => if isGl sc p.1 then (trs (trE true 30 N sc) p.2).bind fun xs => if xs.isEmpty then none else some (p.1,xs) else none
def trCh (N : List Str) (sc : List (Str × NameKind)) : Nat → List Stmt → Option (List Br × (Str × List Ex))
  | 0,_ => none
  | n + 1,b => (oneOf b).bind fun s => alt (sIf s) (fun q => (oneOf q.1.2.1).bind fun s1 => (trE true 30 N sc q.1.1).bind fun x => (exCall N sc s1).bind fun c => (trCh N sc n q.1.2.2.1).map fun r => (⟨x,c.1,c.2⟩ :: r.1,r.2)) <| (exCall N sc s).map fun c => ([],c)
theorem trCh_succ (N : List Str) (sc : List (Str × NameKind)) (n : Nat) (b : List Stmt) : trCh N sc (n + 1) b = ((oneOf b).bind fun s => alt (sIf s) (fun q => (oneOf q.1.2.1).bind fun s1 => (trE true 30 N sc q.1.1).bind fun x => (exCall N sc s1).bind fun c => (trCh N sc n q.1.2.2.1).map fun r => (⟨x,c.1,c.2⟩ :: r.1,r.2)) <| (exCall N sc s).map fun c => ([],c)) := rfl
def trC2 (N : List Str) (sc : List (Str × NameKind)) (h : ExceptHandler) : Option (Str × Nat × Str) := (hOf h).bind fun q => (callOf q.2.2).bind fun p => (oneOf p.2).bind fun a => (nameOf a).bind fun m =>
  if isGl sc q.1 && (isGl sc p.1 && (decide (m = q.2.1) && (isVis sc q.2.1 && decide (kindIn sc q.2.1 = some .local)))) then (slot N q.2.1).map fun i => (q.1,i,p.1) else none
section
variable {T : Tx} {W : Wd} {cm : Bool} {k : Nat} {X : Cx} {N : List Str} {sc : List (Str × NameKind)} {E : XK}
theorem SOk.held (O : SOk T W true k X N sc E) (a : Addr) : SOk T W false k (X.held a) N sc EN where
  x := ⟨O.x.hK,O.x.hN,O.x.tx,O.x.vis,O.x.gl,O.x.kinds,(fun z => nomatch z),(fun z => nomatch z),O.x.units,O.x.call,O.x.blt,O.x.glob,pass1,O.x.ty
    ,O.x.exi
    ⟩
  nd := O.nd
  loc := O.loc
  locs := O.locs
  kindF := O.kindF
  raises := fun _ _ _ _ _ _ _ _ _ _ z => z.elim
  xcls := O.xcls
theorem snd_W : ∀ (n : Nat) {X : Cx} {E : XK} (O : SOk T W false k X N sc E) (st : Stmt) (s : Sx),trW N sc n st = some s → SndS T W X E st s := by
  intro n
  induction n with
  | zero => intro X E O st s h; cases h
  | succ n ihn =>
    intro X E O st s h
    have many : ∀ {sts : List Stmt} {ss : List Sx},trs (trW N sc n) sts = some ss → SndSs T W X E sts ss := by
      intro sts
      induction sts with
      | nil => intro ss h; cases h; exact sndSs_nil
      | cons st sts ih =>
        intro ss h
        unfold trs at h
        split at h
        · rename_i s1 l h1 h2; cases h; exact sndSs_cons (ihn O _ _ h1) (ih h2)
        · cases h
    rw [trW_succ] at h
    rcases altI h with ⟨q,h1⟩ | h1
    · obtain ⟨t,ht,h2⟩ := bndI h1
      obtain ⟨x,hx,h3⟩ := bndI h2
      obtain ⟨hl,h4⟩ := iteN h3
      obtain ⟨i,hi,h5⟩ := bndI h4
      obtain ⟨y,hy,e0⟩ := mapI h5
      obtain ⟨p',e1⟩ := nameOf_eq hx
      rw [q.2,oneOf_eq ht,← e0,e1]
      exact snd_asg O hl hi hy
    clear h
    rcases altI h1 with ⟨q,h2⟩ | h2
    · obtain ⟨e,he,h3⟩ := bndI h2
      obtain ⟨y,hy,e0⟩ := mapI h3
      rw [q.2,he,← e0]
      exact snd_ret (gd_E 30 O.x _ _ hy)
    clear h1
    obtain ⟨q,_,h3⟩ := bndI h2
    obtain ⟨t,h5,h6⟩ := bndI h3
    obtain ⟨x,h7,h8⟩ := bndI h6
    obtain ⟨y,h9,e0⟩ := mapI h8
    rw [q.2,← e0]
    exact snd_ifs (gd_E 30 O.x _ _ h5) (many h7) (many h9)
def CallH (T : Tx) (P : Program) (w : World) (mg : Str → Option Value) (base : Heap) (k : Nat) (x : Str) (fn : Fn) : Prop := ∀ (X : Cx),X.prog = P → X.w = w → X.K = T.K → X.mg = mg → X.base = base → Room k X.A → Gl X x → (x == ("__debug__" : Str)) = false →
  ∀ (a : Addr) (e : Expr) (es : List Expr) (t : TA) (p pos : Pos),PA (X.held a) (e :: es) t → starEach (e :: es) X.env = (false,eval e X.env) :: starEach es X.env → (backTo pos (starEach es X.env)).any (·.1) = false → PE (X.held a) (.Call (.Name x p) (e :: es) [] pos) (tCall (spD T fn) [] EN t)
theorem held_call {P : Program} {w : World} {mg : Str → Option Value} {base : Heap} {x : Str} {st : Stmt} {f : Addr} {fd : FuncData} {ps : List Str} {n np m : Nat} {ss : List Sx} {l : List (Str × Fn)} (X0 : Txt T P w mg { W with F := Fl l }) (F : Fun T.K x x st f fd) (S : FnScope N ps (defScope st)) (hm : mg x = some (.ref f)) (hb : Binds T.K fd ps [])
    (htr : trs (trW N (defScope st).names n) (defBody st) = some ss) (hn : np = ps.length) (hN : m = N.length) (calls : ∀ p ∈ l,CallIn T P w mg base k p.1 p.2) : CallH T P w mg base (k + 1) x (mkFn { W with F := Fl l } np m [] ss) := by
  subst hn hN
  have key : ∀ ds r,(mkFn { W with F := Fl l } ps.length N.length [] ss).m ds = some r → ds.length = ps.length ∧ evFn { W with F := Fl l } N.length [] ss ds = some r := fun ds r e => by
    simp only [mkFn] at e
    split at e
    · rename_i h; exact ⟨h,e⟩
    · cases e
  have FH : FnH P w T.K mg base (k + 1) f fd ps (spD T (mkFn { W with F := Fl l } ps.length N.length [] ss)) := fnH_of F S fun cdv A outer s H vs Q a hr h => by
    obtain ⟨ds,r,Pr,rs,hf,e,q⟩ := h
    obtain ⟨hl,ev⟩ := key ds r e
    have O := (sok_cx (outer:=outer) (H:=H) (E:=EN) X0 S (calls_of calls) hr).held a
    have many : ∀ {sts : List Stmt} {ss : List Sx},trs (trW N (defScope st).names n) sts = some ss → SndSs T { W with F := Fl l } ((cxOf (CX1 P w) P w T.K mg base N x (defScope st) f cdv A outer s H EN).held a) EN sts ss := by
      intro sts
      induction sts with
      | nil => intro ss h; cases h; exact sndSs_nil
      | cons st sts ih =>
        intro ss h
        unfold trs at h
        split at h
        · rename_i s1 l h1 h2; cases h; exact sndSs_cons (snd_W n O _ _ h1) (ih h2)
        · cases h
    obtain ⟨t,pt,dt⟩ := many htr
    refine ⟨t,pt,?_⟩
    have hpl : ps.length ≤ N.length := by have := congrArg List.length S.pre; rw [List.length_take] at this; omega
    unfold evFn at ev
    cases eo : evSs { W with F := Fl l } (entsOf [] ds ++ List.replicate (N.length - ds.length) none) ss with
    | none => rw [eo] at ev; cases ev
    | some o =>
      rw [eo] at ev
      refine dt ⟨H,Pr,fun _ => False,fun _ => False⟩ [] _ _ H o _ eo (ents_ok (by omega) rs hf) ?_
      cases o with
      | nx ρ' =>
        cases ev
        intro Γ' σ' H' e1 e2 hE
        have s1 := hE.same
        rw [e1] at s1
        exact q .non H' s1 rfl
      | rt d t =>
        simp only [endR] at ev
        intro v H' s1 rd
        split at ev
        · cases ev; exact q v H' s1 (rd.imp fun b z => .inl z)
        · cases ev; exact q v H' s1 rd
        · cases ev
      | exc c => cases ev; exact q
  intro X eP ew eK em eb hr hg hd a e es t p pos ha hs hpl
  subst eP ew em eb
  have kp := F.kp
  rw [← eK] at FH hb kp
  exact pe_held FH (fun vs H Q E h => by
    obtain ⟨ds,r,Pr,rs,_,e,_⟩ := h
    rw [rs.length]; exact (key ds r e).1) hr hg hm kp hb ha hd hs hpl
theorem exCall_parts {s : Stmt} {f : Str} {xs : List Ex} (h : exCall N sc s = some (f,xs)) : ∃ p e es p1 p2 x ys,s = .Expr (.Call (.Name f p) (e :: es) [] p1) p2 ∧ isGl sc f = true ∧ xs = x :: ys ∧ trs (trE true 30 N sc) (e :: es) = some (x :: ys) := by
  obtain ⟨v,_,h1⟩ := bndI h
  obtain ⟨⟨f',args⟩,hq,h2⟩ := bndI h1
  obtain ⟨hg,h3⟩ := iteN h2
  obtain ⟨xs',hx,h4⟩ := bndI h3
  clear h h1 h2 h3
  obtain ⟨p,p1,e1⟩ := callOf_eq hq
  cases xs' with
  | nil => cases h4
  | cons x ys =>
    cases h4
    cases args with
    | nil => cases hx
    | cons e es => exact ⟨p,e,es,p1,_,x,ys,by rw [v.2,e1],hg,rfl,hx⟩
theorem ex_tb (O : XOk T W true k X N sc E) (callsT : ∀ f fn,W.F f = some fn → CallAt T X.prog X.w X.mg X.base k f fn) {s : Stmt} {f : Str} {xs : List Ex} (h : exCall N sc s = some (f,xs)) : ∃ tb : XK → TS,BodyOk T W X [s] tb ∧ ∀ (E' : XK) (Γ : Ctx) (G : List Gh) (ρ : Env) (σ : St) (H : Hp) (r : Res) (K : Ends),evC W ρ f xs = some r → EnvOk T Γ G ρ σ H → Post T E' Γ H (fun _ H' => K.nx σ H') r → tb E' K σ H := by
  cases hf : W.F f with
  | none => exact ⟨fun _ _ _ _ => False,fun _ _ _ _ _ _ _ _ _ z => z.elim,fun E' Γ G ρ σ H r K he _ _ => by unfold evC at he; rw [hf] at he; cases he⟩
  | some fn =>
    obtain ⟨p,e,es,p1,p2,x,ys,rfl,hg,rfl,hx⟩ := exCall_parts h
    refine ⟨fun E' => tDrop (tCall (spD T fn) [] E' (tA0 T W (x :: ys))),fun Wsh pins σ E' hP => ?_,fun E' Γ G ρ σ H r K he h hp => den_evC hf he h hp⟩
    have O' := O.wish Wsh
    obtain ⟨sa,st⟩ := sndA_trs (fun e x h => gd_E 30 O' e x h) hx
    exact sss_one (ss_expr (callsT f fn hf (X.wish Wsh) rfl rfl O.hK rfl rfl (O.room rfl) pins σ E' hP (O.gl _ hg) (gl_ok hg).1 e es _ p p1 sa.pa0 (st e List.mem_cons_self _ _) (star_plain fun z hz => st z (List.mem_cons_of_mem _ hz))))
theorem chain_ok (O : XOk T W true k X N sc E) (callsT : ∀ f fn,W.F f = some fn → CallAt T X.prog X.w X.mg X.base k f fn) : ∀ (n : Nat) (body : List Stmt) (ch : List Br × (Str × List Ex)),trCh N sc n body = some ch → ∃ tb,BodyOk T W X body tb ∧ ∀ (E' : XK) (Γ : Ctx) (G : List Gh) (ρ : Env) (σ : St) (H : Hp) (r : Res) (K : Ends),evCh W ρ ch.2 ch.1 = some r → EnvOk T Γ G ρ σ H → Post T E' Γ H (fun _ H' => K.nx σ H') r → tb E' K σ H := by
  intro n
  induction n with
  | zero => intro body ch h; cases h
  | succ n ih =>
    intro body ch h
    rw [trCh_succ] at h
    obtain ⟨s,hs,h1⟩ := bndI h
    rw [oneOf_eq hs]
    clear h hs
    rcases altI h1 with ⟨q,h2⟩ | h2
    · obtain ⟨s1,hs1,h3⟩ := bndI h2
      obtain ⟨x,hx,h4⟩ := bndI h3
      obtain ⟨c,hc,h5⟩ := bndI h4
      obtain ⟨r,hr,e0⟩ := mapI h5
      obtain ⟨tb1,b1,b2⟩ := ex_tb O callsT hc
      obtain ⟨tb2,b3,b4⟩ := ih _ _ hr
      rw [q.2,oneOf_eq hs1,← e0]
      refine ⟨fun E' => tIfA (tT T W EN x) (tb1 E') (tb2 E'),fun Wsh pins σ E' hP => sss_one (ss_if (gd_E 30 (O.wish Wsh) _ x hx).pt (b1 Wsh pins σ E' hP) (b3 Wsh pins σ E' hP)),fun E' Γ G ρ σ H rr K he h hp => ?_⟩
      unfold evCh at he
      split at he
      · rename_i t hc
        refine ⟨Γ,G,ρ,_,hc,⟨true,rfl⟩,h,fun b H1 eb s1 => ?_⟩
        cases eb
        exact b2 E' Γ G ρ σ H1 rr _ he (h.mono s1) (hp.mono s1)
      · rename_i t hc
        refine ⟨Γ,G,ρ,_,hc,⟨false,rfl⟩,h,fun b H1 eb s1 => ?_⟩
        cases eb
        exact b4 E' Γ G ρ σ H1 rr K he (h.mono s1) (hp.mono s1)
      · cases he
    · obtain ⟨c,hc,e0⟩ := mapI h2
      rw [← e0]
      exact ex_tb O callsT hc
theorem pre_ok {mu : List Str} {n : Nat} {rest : List Stmt} {u : TS} (O : SOk T W true k X N sc E) (hr : PSs X rest u) : ∀ (pre : List Stmt) (ss : List Sx),trs (trS true n N sc mu) pre = some ss → ∃ t,PSs X (pre ++ rest) t ∧ ∀ (Γ : Ctx) (G : List Gh) (ρ ρ' : Env) (σ : St) (H : Hp) (K : Ends),evSs W ρ ss = some (.nx ρ') → EnvOk T Γ G ρ σ H → (∀ (Γ' : Ctx) (σ' : St) (H' : Hp),Γ'.H0 = Γ.H0 → Γ'.P = Γ.P → EnvOk T Γ' G ρ' σ' H' → u K σ' H') → t K σ H
  | [],ss,h => by
    cases h
    exact ⟨u,hr,fun Γ G ρ ρ' σ H K e h q => by cases e; exact q Γ σ H rfl rfl h⟩
  | st :: pre,ss,h => by
    unfold trs at h
    split at h
    · rename_i s1 l h1 h2
      cases h
      obtain ⟨t1,p1,d1⟩ := snd_S n O _ _ h1
      obtain ⟨t2,p2,d2⟩ := pre_ok O hr pre l h2
      refine ⟨_,pss_cons p1 p2,fun Γ G ρ ρ' σ H K e h q => ?_⟩
      have e' : bindS (evS W ρ s1) (fun ρ1 => evSs W ρ1 l) = some (.nx ρ') := e
      cases eo : evS W ρ s1 with
      | none => rw [eo] at e'; cases e'
      | some o =>
        rw [eo] at e'
        cases o with
        | nx ρ1 => exact d1 Γ G ρ σ H _ _ eo h fun Γ1 σ1 H1 e1 e2 hE => d2 Γ1 G ρ1 ρ' σ1 H1 K e' hE fun Γ' σ' H' z1 z2 hE' => q Γ' σ' H' (z1.trans e1) (z2.trans e2) hE'
        | rt d t => cases e'
        | exc c => cases e'
    · cases h
theorem mid_ok {P : Program} {w : World} {mg : Str → Option Value} {base : Heap} {x : Str} {st : Stmt} {f : Addr} {fd : FuncData} {ps : List Str} {mu : List Str} {n i : Nat} {pre post body : List Stmt} {ss pp : List Sx} {ch : List Br × (Str × List Ex)} {hx wn : Str} {wf fn : Fn} {h₀ : ExceptHandler} {pos : Pos} (X0 : Txt T P w mg W) (F : Fun T.K x x st f fd) (S : FnScope N ps (defScope st))
    (hst : defBody st = pre ++ (.Try body [h₀] [] [] pos :: post)) (hp : trs (trS true n N (defScope st).names mu) pre = some ss) (hq : trs (trS true n N (defScope st).names mu) post = some pp) (hb : trCh N (defScope st).names n body = some ch) (hh : trC2 N (defScope st).names h₀ = some (hx,i,wn))
    (calls : ∀ f fn,W.F f = some fn → CallIn T P w mg base k f fn) (callsT : ∀ f fn,W.F f = some fn → CallAt T P w mg base k f fn) (ch' : CallH T P w mg base k wn wf) (hc : ∃ C,mg hx = some (.ref C) ∧ ∀ c,W.exn c = true → PySem.W.exmOne T.K (T.cv c) (.ref C) = some true) (hwf : wf.fl = []) (hfl : fn.fl = [])
    (hm : ∀ ds r,fn.m ds = some r → ds.length = ps.length ∧ evMid W N.length ss ch i wf pp ds = some r) : FnOk P w T.K mg base (CX1 P w) (k + 1) f fd ps (spD T fn) := by
  refine F.ok1 S (fun vs H Q E h => ?_) (fun cdv A outer s H vs Q E hr h => ?_)
  · obtain ⟨ds,r,Pr,rs,_,e,_⟩ := h
    rw [rs.length]; exact (hm ds r e).1
  · obtain ⟨ds,r,Pr,rs,hf,e,q⟩ := h
    obtain ⟨hl,ev⟩ := hm ds r e
    have O := sok_cx (outer:=outer) (H:=H) (E:=E) X0 S calls hr
    obtain ⟨tb,b1,b2⟩ := chain_ok O.x callsT n body ch hb
    obtain ⟨⟨x',nm,e0⟩,hq0,h3⟩ := bndI hh
    obtain ⟨⟨wn',args⟩,hq1,h4⟩ := bndI h3
    obtain ⟨a1,ha1,h5⟩ := bndI h4
    obtain ⟨m1,hm1,h6⟩ := bndI h5
    obtain ⟨hg,h7⟩ := iteN h6
    obtain ⟨i',hi,h8⟩ := mapI h7
    clear hh h3 h4 h5 h6 h7
    cases h8
    obtain ⟨p1,p2,p3,rfl⟩ := hOf_eq hq0
    obtain ⟨p4,p5,e1⟩ := callOf_eq hq1
    replace e1 : e0 = _ := e1
    subst e1
    obtain ⟨p6,e2⟩ := nameOf_eq hm1
    simp only [Bool.and_eq_true,decide_eq_true_eq] at hg
    obtain ⟨g1,g2,rfl,g4,g5⟩ := hg
    have ea : args = [.Name m1 p6] := (oneOf_eq (show oneOf args = some a1 from ha1)).trans (by rw [show a1 = _ from e2])
    subst ea
    obtain ⟨C,hC,SB⟩ := hc
    have hi' : N[i]? = some m1 := slot_get hi
    obtain ⟨v1,v2⟩ := vis_ok g4
    have pv : ∀ a,PE ((cxOf (CX1 P w) P w T.K mg base N x (defScope st) f cdv A outer s H E).held a) (.Name m1 p6) (tVar i) := fun a => pe_var hi' (O.x.vis _ g4) v1 v2
    have pc : ∀ a,PE ((cxOf (CX1 P w) P w T.K mg base N x (defScope st) f cdv A outer s H E).held a) (.Call (.Name wn' p4) [.Name m1 p6] [] p5) (tCall (spD T wf) [] EN (tCons (tVar i) tNil)) := fun a => ch' _ rfl rfl rfl rfl rfl hr (O.x.gl _ g2) (gl_ok g2).1 a _ _ _ p4 p5 (pa_cons (pv a) pa_nil rfl) rfl rfl
    have ph := phs_cons (X:=cxOf (CX1 P w) P w T.K mg base N x (defScope st) f cdv A outer s H E) (np:=p1) (pos:=p3) O.nd hi' (O.locs _ g5) (O.x.gl _ g1) hC (fun a => pss_one (ps_ret (pos:=p2) (pc a))) phs_nil (gl_ok g1).1
    have many : ∀ {sts : List Stmt} {ss : List Sx},trs (trS true n N (defScope st).names mu) sts = some ss → SndSs T W (cxOf (CX1 P w) P w T.K mg base N x (defScope st) f cdv A outer s H E) E sts ss := by
      intro sts
      induction sts with
      | nil => intro ss h; cases h; exact sndSs_nil
      | cons st sts ih =>
        intro ss h
        unfold trs at h
        split at h
        · rename_i s1 l h1 h2; cases h; exact sndSs_cons (snd_S n O _ _ h1) (ih h2)
        · cases h
    obtain ⟨tp,pp1,pp2⟩ := many hq
    obtain ⟨t,pt,dt⟩ := pre_ok O (pss_cons (ps_try (pos:=pos) rfl rfl b1 ph) pp1) pre ss hp
    rw [hst]
    refine ⟨t,pt,?_⟩
    have hpl : ps.length ≤ N.length := by have := congrArg List.length S.pre; rw [List.length_take] at this; omega
    rw [hfl] at hf
    have hE := ents_ok (T:=T) (N:=N) (Pr:=Pr) (fl:=[]) (by omega) rs hf
    unfold evMid at ev
    split at ev
    · rename_i ρ eo
      refine dt _ [] _ ρ _ H _ eo hE fun Γ' σ' H' z1 z2 hE' => ?_
      have sH : Same H H' := by have := hE'.same; rw [z1] at this; exact this
      split at ev
      · rename_i d0 t0 ec
        refine ⟨fun _ _ _ => False,b2 _ _ [] _ _ H' _ _ ec hE' fun v H1 s1 _ => ?_,fun cls d H' a z => z.elim⟩
        cases eo2 : evSs W ρ pp with
        | none => rw [eo2] at ev; cases ev
        | some o =>
          rw [eo2] at ev
          refine pp2 Γ' [] ρ σ' H1 o _ eo2 (hE'.mono s1) ?_
          cases o with
          | nx ρ' =>
            cases ev
            intro Γ2 σ2 H2 e1 e2 hE2
            have s2 := hE2.same
            rw [e1,z1] at s2
            exact q .non H2 s2 rfl
          | rt d t =>
            simp only [endR] at ev
            intro v H2 s2 rd
            rw [z1] at s2
            have rd' : Rep T H2 (fun b => H b = none ∨ Pr b) d v ∨ (∀ r,some r ≠ (match t with | .new => some (R.ok d) | .cl .fl => some (R.ok d) | _ => none)) := by
              split
              · exact .inl (rd.imp fun b z => by have z' : Γ'.H0 b = none := z; rw [z1] at z'; exact .inl z')
              · exact .inl (rd.imp fun b z => by have z' : Γ'.H0 b = none ∨ Γ'.P b := z; rw [z1,z2] at z'; exact z')
              · exact .inr fun r z => nomatch z
            rcases rd' with rd' | no
            · split at ev
              · cases ev; exact q v H2 s2 rd'
              · cases ev; exact q v H2 s2 rd'
              · cases ev
            · exact absurd ev.symm (no r)
          | exc c =>
            cases ev
            intro H2 s2
            rw [z1] at s2
            exact q H2 s2
      · rename_i c ec
        obtain ⟨hsub,hw⟩ := iteN ev
        have k2 := SB _ hsub.1
        unfold leafR at hw
        split at hw
        · rename_i d hwm
          obtain ⟨hlf,hw⟩ := iteN hw
          cases hw
          refine ⟨fun cls _ H2 => cls = T.cv c ∧ Same H' H2,b2 _ _ [] _ _ H' _ _ ec hE' fun H2 s2 => ⟨rfl,s2⟩,fun cls d' H2 a hcl ha => ?_⟩
          obtain ⟨e1,s1⟩ := hcl
          subst e1
          refine .inl ⟨k2,.ref a,?_,?_⟩
          · rw [List.getElem?_set_self (by rw [hE'.len]; exact hsub.2)]
          · show spD T wf ([.ref a] ++ []) _ _ EN
            refine ⟨[.exc c],.ok d,fun _ => True,⟨.ref a,[],rfl,⟨a,rfl,upd_same⟩,rfl⟩,?_,hwm,fun v H3 s3 rd => q v H3 ((sH.trans s1).trans ((Same.mk1 ha).trans s3)) (Rep.free d v hlf rd)⟩
            rw [hwf]; exact trivial
        · cases hw
      · cases ev
    · cases ev
theorem mid_call {P : Program} {w : World} {mg : Str → Option Value} {base : Heap} {x : Str} {st : Stmt} {f : Addr} {fd : FuncData} {ps : List Str} {mu : List Str} {n i np m : Nat} {ss pp : List Sx} {ch : List Br × (Str × List Ex)} {hx wn : Str} {wf : Fn} {l : List (Str × Fn)} (X0 : Txt T P w mg { W with F := Fl l }) (F : Fun T.K x x st f fd) (S : FnScope N ps (defScope st)) (hm : mg x = some (.ref f)) (hb : Binds T.K fd ps [])
    (htr : ∃ pre post body h₀ pos,defBody st = pre ++ (.Try body [h₀] [] [] pos :: post) ∧ trs (trS true n N (defScope st).names mu) pre = some ss ∧ trs (trS true n N (defScope st).names mu) post = some pp ∧ trCh N (defScope st).names n body = some ch ∧ trC2 N (defScope st).names h₀ = some (hx,i,wn)) (hn : np = ps.length) (hN : m = N.length)
    (calls : ∀ p ∈ l,CallIn T P w mg base k p.1 p.2) (callsT : ∀ p ∈ l,CallAt T P w mg base k p.1 p.2) (ch' : CallH T P w mg base k wn wf) (hc : ∃ C,mg hx = some (.ref C) ∧ ∀ c,W.exn c = true → PySem.W.exmOne T.K (T.cv c) (.ref C) = some true) (hwf : wf.fl = []) : CallIn T P w mg base (k + 1) x (mkMid { W with F := Fl l } np m ss ch i wf pp) := by
  subst hn hN
  obtain ⟨pre,post,body,h₀,pos,h1,h2,h3,h4,h5⟩ := htr
  refine call_of (mid_ok (fn:=mkMid { W with F := Fl l } ps.length N.length ss ch i wf pp) X0 F S h1 h2 h3 h4 h5 (calls_of calls) (fun f fn e => callsT (f,fn) (PySem.mem_of_lookup e)) ch' hc hwf rfl fun ds r e => ?_) (Nat.le_refl _) hm F.kp hb
  simp only [mkMid] at e
  split at e
  · rename_i h; exact ⟨h,e⟩
  · cases e
theorem call_treeT {P : Program} {w : World} {mg : Str → Option Value} {base : Heap} {st : Stmt} {f : Addr} {fd : FuncData} {chk : Fn} (X0 : Txt T P w mg W) (In : InitOk st) (F : Fun T.K "__init__" "Tree.__init__" st f fd) (hb : Binds T.K fd ["self","many","ties"] []) (M : Mk T.K T.CT f) (hC : mg "Tree" = some (.ref T.CT)) (hfl : chk.fl = []) (cc : CallIn T P w mg base k "check_tree" chk) :
    CallAt T P w mg base (k + 2) "Tree" (treeFn chk) := by
  intro X eP ew eK em eb hr pins σ E hP hg hd e es t p pos ha hs hpl
  subst eP ew em eb
  have G := ok_init X0 In F cc
  rw [← eK] at G hb M
  have ha' : PA X (e :: es) (fun σ' H' Q' => ∃ R : List V → Hp → Prop,t σ' H' R ∧ ∀ vs H1,R vs H1 → Q' vs H1) := fun pos pins s σ H Q I z => by
    obtain ⟨R,h1,h2⟩ := z
    exact thn (ha pos pins s σ H R I h1) fun us s1 z => by
      obtain ⟨vs,H1,I1,r,q⟩ := z
      exact ⟨vs,H1,I1,r,h2 vs H1 q⟩
  have key := es_make (p:=p) (pos:=pos) M G hr hg hC hb hP ha' hd hs hpl
  exact fun s H Q I h => key s H Q I ⟨_,h,fun vs H1 q => tree_step hfl q⟩
end
end Ev
set_option maxRecDepth 100000
namespace Bd
open PySem Ev
def b_is_tie : List Sx := [.ret (.and (.cmp .eq (.blt .len [(.var 1)]) (.int 2)) (.chain3 .le .lt .lt (.int 0) (.ix (.var 1) (.int 0)) (.ix (.var 1) (.int 1)) (.var 0)))]
def b_is_rising : List Sx := [.ret (.blt .all [(.compR [none,none,some 0] 1 (.int 1) (.blt .len [(.var 0)]) none (.cmp .lt (.ix (.var 2) (.bin .sub (.var 1) (.int 1))) (.ix (.var 2) (.var 1))))])]
def b_is_whole : List Sx := [.asg 2 false (.blt .listrange1 [(.var 0)]),.forL (.name 3) (.var 1) [.asg 4 false (.ix (.var 2) (.ix (.var 3) (.int 0))),.asg 5 false (.ix (.var 2) (.ix (.var 3) (.int 1))),.asg 2 false (.compL [none,none,some 5,some 4] (.name 1) (.var 2) none (.ifx (.cmp .eq (.var 1) (.var 2)) (.var 3) (.var 1)))],.ret (.cmp .eq (.count (.var 2) (.ix (.var 2) (.int 0))) (.var 0))]
def b_check_tree : List Sx := [.ifs (.not (.chain2 .le .le (.int 1) (.var 0) (.glob "MOST_PLACES"))) [.raise "BadTree" (.fstr "a tree has 1 to " "MOST_PLACES" " places")] [],.ifs (.cmp .ne (.blt .len [(.var 1)]) (.bin .sub (.var 0) (.int 1))) [.raise "BadTree" (.str "a tree has one tie less than places")] [],.ifs (.not (.blt .all [(.compL [none,none,some 0] (.name 1) (.var 1) none (.call "is_tie" [(.var 2),(.var 1)]))])) [.raise "BadTree" (.str "a tie holds two places of the tree, the lesser first")] [],.ifs (.not (.call "is_rising" [(.var 1)])) [.raise "BadTree" (.str "the ties of a tree rise, and none is there twice")] [],.ifs (.not (.call "is_whole" [(.var 0),(.var 1)])) [.raise "BadTree" (.str "the ties of a tree lead from each place to each other one")] []]
def b_neighbours : List Sx := [.asg 2 false (.compL [none,none,some 1] (.name 1) (.fld (.var 0) true) (some (.cmp .eq (.ix (.var 1) (.int 1)) (.var 2))) (.ix (.var 1) (.int 0))),.asg 3 false (.compL [none,none,some 1] (.name 1) (.fld (.var 0) true) (some (.cmp .eq (.ix (.var 1) (.int 0)) (.var 2))) (.ix (.var 1) (.int 1))),.ret (.bin .add (.var 2) (.var 3))]
def b_law_cell_at : List Sx := [.ifs (.cmp .lt (.var 1) (.blt .len [(.var 0)])) [.ret (.ix (.var 0) (.var 1))] [],.ret (.int 0)]
def b_check_marks : List Sx := [.ifs (.cmp .ne (.blt .sorted [(.var 1)]) (.blt .listrange1 [(.fld (.var 0) false)])) [.raise "BadMarks" (.str "marks hold each number from 0 to one less than the places once")] []]
def b_differences : List Sx := [.expr (.call "check_marks" [(.var 0),(.var 1)]),.ret (.compL [none,none,some 1] (.name 1) (.fld (.var 0) true) none (.blt .abs [(.bin .sub (.ix (.var 2) (.ix (.var 1) (.int 0))) (.ix (.var 2) (.ix (.var 1) (.int 1))))]))]
def b_is_good : List Sx := [.asg 2 false (.call "differences" [(.var 0),(.var 1)]),.ret (.cmp .eq (.blt .lset [(.var 2)]) (.blt .len [(.var 2)]))]
def b_turned : List Sx := [.expr (.call "check_marks" [(.var 0),(.var 1)]),.ret (.compL [none,none,some 0] (.name 1) (.var 1) none (.bin .sub (.bin .sub (.fld (.var 2) false) (.int 1)) (.var 1)))]
def b_check_good : List Sx := [.ifs (.not (.call "is_good" [(.var 0),(.var 1)])) [.raise "NotGood" (.str "two ties have the same difference")] []]
def b_parts_each_tie : List Sx := [.forL (.name 3) (.fld (.var 0) true) [.ifs (.cmp .eq (.cmp .gt (.ix (.var 1) (.ix (.var 3) (.int 0))) (.var 2)) (.cmp .gt (.ix (.var 1) (.ix (.var 3) (.int 1))) (.var 2))) [.ret (.bl false)] []],.ret (.bl true)]
def b_bound : List Sx := [.expr (.call "check_good" [(.var 0),(.var 1)]),.forR 2 (.int 0) (.fld (.var 0) false) [.ifs (.call "parts_each_tie" [(.var 0),(.var 1),(.var 2)]) [.ret (.var 2)] []],.ret .non]
def b_inner_places : List Sx := [.ret (.compR [none,none,some 0] 1 (.int 0) (.fld (.var 0) false) (some (.cmp .ge (.blt .len [(.call "neighbours" [(.var 2),(.var 1)])]) (.int 2))) (.var 1))]
def b_inner_neighbours : List Sx := [.asg 2 false (.call "inner_places" [(.var 0)]),.ret (.compL [none,none,some 2] (.name 1) (.call "neighbours" [(.var 0),(.var 1)]) (some (.cmp .isin (.var 1) (.var 2))) (.var 1))]
def b_is_comb : List Sx := [.ret (.blt .all [(.compL [none,none,some 0] (.name 1) (.call "inner_places" [(.var 0)]) none (.cmp .le (.blt .len [(.call "inner_neighbours" [(.var 2),(.var 1)])]) (.int 2)))])]
def b_row_end : List Sx := [.forL (.name 1) (.call "inner_places" [(.var 0)]) [.ifs (.cmp .le (.blt .len [(.call "inner_neighbours" [(.var 0),(.var 1)])]) (.int 1)) [.ret (.var 1)] []],.ret (.int 0)]
def b_inner_row : List Sx := [.asg 1 true (.lst [(.call "row_end" [(.var 0)])]),.asg 2 false (.call "inner_neighbours" [(.var 0),(.ix (.var 1) (.int 0))]),.while_ (.cmp .gt (.blt .len [(.var 2)]) (.int 0)) [.app 1 (.ix (.var 2) (.int 0)),.asg 2 false (.compL [none,none,some 1] (.name 1) (.call "inner_neighbours" [(.var 0),(.ix (.var 1) (.neg (.int 1)))]) (some (.cmp .notin (.var 1) (.var 2))) (.var 1))],.ret (.var 1)]
def b_sides : List Sx := [.asg 1 false (.call "inner_row" [(.var 0)]),.asg 2 true (.lst [(.ix (.var 1) (.int 0))]),.asg 3 true (.lst []),.forR 4 (.int 0) (.blt .len [(.var 1)]) [.asg 5 false (.compL [none,none,some 1] (.name 1) (.call "neighbours" [(.var 0),(.ix (.var 1) (.var 4))]) (some (.cmp .notin (.var 1) (.var 2))) (.var 1)),.asg 6 false (.bin .add (.var 5) (.slice (.var 1) (some (.bin .add (.var 4) (.int 1))) (some (.bin .add (.var 4) (.int 2))))),.ifs (.cmp .eq (.bin .mod (.var 4) (.int 2)) (.int 0)) [.ext 3 (.var 6)] [.ext 2 (.var 6)]],.ret (.tup [(.var 2),(.var 3)])]
def b_comb_marks : List Sx := [.ifs (.not (.call "is_comb" [(.var 0)])) [.raise "NoComb" (.str "a place with two ties or more has more than two such neighbours")] [],.asg 1 false (.call "sides" [(.var 0)]),.asg 2 true (.bin .mul (.lst [(.int 0)]) (.fld (.var 0) false)),.forR 3 (.int 0) (.blt .len [(.ix (.var 1) (.int 0))]) [.setix 2 (.ix (.ix (.var 1) (.int 0)) (.var 3)) (.bin .sub (.bin .sub (.fld (.var 0) false) (.int 1)) (.var 3))],.forR 3 (.int 0) (.blt .len [(.ix (.var 1) (.int 1))]) [.setix 2 (.ix (.ix (.var 1) (.int 1)) (.var 3)) (.var 3)],.ret (.var 2)]
def b_ring_size : List Sx := [.ret (.bin .sub (.bin .mul (.int 2) (.fld (.var 0) false)) (.int 1))]
def b_laid_tie : List Sx := [.asg 4 false (.bin .mod (.bin .add (.ix (.var 1) (.ix (.var 2) (.int 0))) (.var 3)) (.call "ring_size" [(.var 0)])),.asg 5 false (.bin .mod (.bin .add (.ix (.var 1) (.ix (.var 2) (.int 1))) (.var 3)) (.call "ring_size" [(.var 0)])),.ret (.tup [(.blt .min [(.var 4),(.var 5)]),(.blt .max [(.var 4),(.var 5)])])]
def b_one_copy : List Sx := [.ret (.blt .sorted [(.compL [none,none,some 1,some 2,some 0] (.name 1) (.fld (.var 0) true) none (.call "laid_tie" [(.var 4),(.var 2),(.var 1),(.var 3)]))])]
def b_copies : List Sx := [.expr (.call "check_good" [(.var 0),(.var 1)]),.ret (.compR [none,none,some 1,some 0] 1 (.int 0) (.call "ring_size" [(.var 0)]) none (.call "one_copy" [(.var 3),(.var 2),(.var 1)]))]
def b_asked_bound : List Sx := [.asg 2 false (.call "bound" [(.var 0),(.var 1)]),.ifs (.isK false none (.var 2)) [.raise "NoBound" (.str "the first tree's marks have no bound")] [],.ret (.var 2)]
def b_moved_ties : List Sx := [.ret (.compL [none,none,some 1] (.name 1) (.var 0) none (.tup [(.bin .add (.ix (.var 1) (.int 0)) (.var 2)),(.bin .add (.ix (.var 1) (.int 1)) (.var 2))]))]
def b_joined_marks : List Sx := [.asg 3 false (.compL [none,none,some 1,some 2] (.name 1) (.var 0) none (.ifx (.cmp .le (.var 1) (.var 3)) (.var 1) (.bin .add (.var 1) (.blt .len [(.var 2)])))),.ret (.bin .add (.var 3) (.compL [none,none,some 2] (.name 1) (.var 1) none (.bin .add (.bin .add (.var 1) (.var 2)) (.int 1))))]
def b_joined : List Sx := [.asg 4 false (.call "asked_bound" [(.var 0),(.var 1)]),.expr (.call "check_good" [(.var 2),(.var 3)]),.asg 5 false (.call "tie_between" [(.var 0),(.var 1),(.var 2),(.var 3),(.var 4)]),.asg 6 false (.blt .sorted [(.bin .add (.bin .add (.fld (.var 0) true) (.call "moved_ties" [(.fld (.var 2) true),(.fld (.var 0) false)])) (.lst [(.var 5)]))]),.ret (.tup [(.call "Tree" [(.bin .add (.fld (.var 0) false) (.fld (.var 2) false)),(.var 6)]),(.call "joined_marks" [(.var 1),(.var 3),(.var 4)])])]
end Bd
set_option maxRecDepth 100000
namespace Ev
open PySem (Str)
section
variable {W : Wd} {ρ ρ1 ρ2 : Env} {s : Sx} {r : List Sx} {d x y : D} {t u : Tag} {e a b src el : Ex} {i : Nat} {o : Out}
theorem seq_nx (h : evS W ρ s = some (.nx ρ1)) : evSs W ρ (s :: r) = evSs W ρ1 r := by (conv => lhs; whnf); rw [h]
theorem seq_rt (h : evS W ρ s = some (.rt d t)) : evSs W ρ (s :: r) = some (.rt d t) := by (conv => lhs; whnf); rw [h]
theorem seq_one (h : evS W ρ s = some o) : evSs W ρ [s] = some o := by
  (conv => lhs; whnf); rw [h]
  cases o <;> rfl
theorem s_asg (h : evE W ρ e = some (.ok d .new)) : evS W ρ (.asg i false e) = some (.nx (ρ.set i (some ⟨d,false,.fl⟩))) := by
  (conv => lhs; whnf); rw [h]
  cases d <;> rfl
theorem s_ret (h : evE W (disownAll ρ) e = some (.ok d t)) (hr : Ev.rt d t = u) : evS W ρ (.ret e) = some (.rt d u) := by
  (conv => lhs; whnf); rw [h]
  show some (Out.rt d (Ev.rt d t)) = _
  rw [hr]
theorem s_ifT {bt be : List Sx} (h : evE W ρ e = some (.ok (.bl true) t)) : evS W ρ (.ifs e bt be) = evSs W ρ bt := by
  (conv => lhs; whnf); rw [h]
theorem s_ifF {bt be : List Sx} (h : evE W ρ e = some (.ok (.bl false) t)) : evS W ρ (.ifs e bt be) = evSs W ρ be := by
  (conv => lhs; whnf); rw [h]
theorem v_bin {op : Bop} (ha : evE W ρ a = some (.ok x t)) (hb : evE W ρ b = some (.ok y u)) (hd : binD op x y = some d) : evE W ρ (.bin op a b) = some (.ok d (tagB d t u)) := by
  (conv => lhs; whnf); rw [ha]
  dsimp only [bindR]
  rw [hb]
  dsimp only
  rw [hd]
  cases d <;> rfl
theorem v_binI {op : Bop} {i j k : Int} (ha : evE W ρ a = some (.ok (.int i) t)) (hb : evE W ρ b = some (.ok (.int j) u)) (hd : binD op (.int i) (.int j) = some (.int k)) : evE W ρ (.bin op a b) = some (.ok (.int k) .new) := v_bin ha hb hd
theorem v_cmp {op : Cop} {c : Bool} (ha : evE W ρ a = some (.ok x t)) (hb : evE W ρ b = some (.ok y u)) (hd : cmpD op x y = some c) : evE W ρ (.cmp op a b) = some (.ok (.bl c) .new) := by
  (conv => lhs; whnf); rw [ha]
  dsimp only [bindR]
  rw [hb]
  dsimp only
  rw [hd]
  rfl
theorem v_ix (ha : evE W ρ a = some (.ok x t)) (hb : evE W ρ b = some (.ok y u)) (hd : ixD x y = some d) : evE W ρ (.ix a b) = some (.ok d (Ev.rt d t.el)) := by
  (conv => lhs; whnf); rw [ha]
  dsimp only [bindR]
  rw [hb]
  dsimp only
  rw [hd]
theorem v_cons {es : List Ex} {ds : List D} {ts : List Tag} (ha : evE W ρ a = some (.ok d t)) (hr : evEs W ρ es = some (.ok ds ts)) : evEs W ρ (a :: es) = some (.ok (d :: ds) (t :: ts)) := by
  (conv => lhs; whnf); rw [ha]
  dsimp only
  rw [hr]
theorem v_one (ha : evE W ρ a = some (.ok d t)) : evEs W ρ [a] = some (.ok [d] [t]) := v_cons ha rfl
theorem v_call {f : Str} {fn : Fn} {es : List Ex} {ds : List D} {ts : List Tag} {v : Tag} (hf : W.F f = some fn) (ha : evEs W ρ es = some (.ok ds ts)) (hm : fn.m ds = some (.ok d)) (ht : flowTag fn.fl ts = some v) : evE W ρ (.call f es) = some (.ok d (Ev.rt d v)) := by
  (conv => lhs; whnf); rw [hf]
  dsimp only
  rw [ha]
  dsimp only
  unfold callR
  rw [hm]
  dsimp only
  rw [ht]
theorem v_callN {f : Str} {fn : Fn} {es : List Ex} {ds : List D} {ts : List Tag} (hf : W.F f = some fn) (ha : evEs W ρ es = some (.ok ds ts)) (hm : fn.m ds = some (.ok d)) (hfl : fn.fl = []) : evE W ρ (.call f es) = some (.ok d .new) := by
  rw [v_call (v:=.new) hf ha hm (by rw [hfl]; cases ts <;> rfl)]
  unfold Ev.rt
  split <;> rfl
theorem v_two (ha : evE W ρ a = some (.ok x t)) (hb : evE W ρ b = some (.ok y u)) : evEs W ρ [a,b] = some (.ok [x,y] [t,u]) := v_cons ha (v_one hb)
theorem for_nx {body : Env → Option Out} {bd : Env → D → Option Env} {ds : List D} (hb : bd ρ d = some ρ1) (h : body ρ1 = some (.nx ρ2)) : forGo body bd (d :: ds) ρ = forGo body bd ds ρ2 := by
  (conv => lhs; whnf); rw [hb]; dsimp only; rw [h]
theorem s_forR {lo hi : Ex} {m n : Int} {t' : Tag} {body : List Sx} (hl : evE W ρ lo = some (.ok (.int m) t)) (hh : evE W ρ hi = some (.ok (.int n) t')) (hz : smallI m = true ∧ smallI n = true) :
    evS W ρ (.forR i lo hi body) = forGo (fun ρ' => evSs W ρ' body) (fun ρ' x => bindT ρ' .new (.name i) x) (rangeD m (n - m).toNat) ρ := by
  (conv => lhs; whnf); rw [hl,hh]
  dsimp only
  rw [if_pos hz]
theorem fn_eq {np n : Nat} {fl : List Bool} {bo : List Sx} {ds : List D} (h : ds.length = np) : (mkFn W np n fl bo).m ds = evFn W n fl bo ds := by
  show (if ds.length = np then _ else _) = _
  rw [if_pos h]
end
end Ev
set_option maxRecDepth 100000
namespace Ev
open PySem (Str)
section
variable {W : Wd} {ρ ρ1 ρ2 : Env}
theorem rangeD_succ (lo : Int) (n : Nat) : rangeD lo (n + 1) = .int lo :: rangeD (lo + 1) n := by
  unfold rangeD
  rw [List.range_succ_eq_map,List.map_cons,List.map_map]
  simp only [Int.natCast_zero,Int.add_zero,List.cons.injEq,true_and]
  refine List.map_congr_left fun k _ => ?_
  show D.int (lo + ((k + 1 : Nat) : Int)) = D.int (lo + 1 + (k : Int))
  congr 1
  lia
theorem for_inv {body : Env → Option Out} {bd : Env → D → Option Env} (P : Int → Env → Prop) : ∀ (n : Nat) (lo : Int) (ρ0 : Env),P lo ρ0 → (∀ k ρ,lo ≤ k → k < lo + n → P k ρ → ∃ ρ1 ρ2,bd ρ (.int k) = some ρ1 ∧ body ρ1 = some (.nx ρ2) ∧ P (k + 1) ρ2) →
    ∃ ρ',forGo body bd (rangeD lo n) ρ0 = some (.nx ρ') ∧ P (lo + n) ρ'
  | 0,lo,ρ0,h0,_ => ⟨ρ0,rfl,by simpa using h0⟩
  | n + 1,lo,ρ0,h0,step => by
    obtain ⟨ρ1,ρ2,h1,h2,h3⟩ := step lo ρ0 (Int.le_refl _) (by omega) h0
    obtain ⟨ρ',h4,h5⟩ := for_inv P n (lo + 1) ρ2 h3 fun k ρ a b c => step k ρ (by omega) (by omega) c
    refine ⟨ρ',?_,by rw [show lo + ((n + 1 : Nat) : Int) = lo + 1 + (n : Int) by omega]; exact h5⟩
    rw [rangeD_succ,for_nx h1 h2]; exact h4
end
theorem e_cell (W : Wd) (ns : List Int) (k : Int) (hk : 0 ≤ k) : ∃ c,evFn W 2 [] Bd.b_law_cell_at [.scr ns,.int k] = some (.ok (.int c)) := by
  unfold evFn Bd.b_law_cell_at
  by_cases h : k < (ns.length : Int)
  · obtain ⟨j,rfl⟩ : ∃ j : Nat,k = (j : Int) := ⟨k.toNat,by lia⟩
    have hj : j < ns.length := by omega
    refine ⟨ns[j],?_⟩
    rw [seq_rt (d:=.int ns[j]) (t:=.new) ((s_ifT (t:=.new) (v_cmp (x:=.int j) (y:=.int ns.length) (t:=.new) (u:=.new) rfl rfl (by simp [cmpD,h]))).trans (seq_rt (s_ret (v_ix (x:=.scr ns) (y:=.int j) (d:=.int ns[j]) (t:=.new) (u:=.new) rfl rfl ?_) rfl)))]
    · rfl
    · have e : ixN ns.length (j : Int) = some j := by unfold ixN; rw [if_pos (by omega),if_pos (by omega)]; simp
      show (atI ns (j : Int)).map D.int = _
      unfold atI; rw [e]
      show (ns[j]?).map D.int = _
      rw [List.getElem?_eq_getElem hj]; rfl
  · refine ⟨0,?_⟩
    rw [seq_nx ((s_ifF (t:=.new) (v_cmp (x:=.int k) (y:=.int ns.length) (t:=.new) (u:=.new) rfl rfl (by simp [cmpD,h]))).trans rfl)]
    rfl
end Ev
set_option maxRecDepth 100000
namespace K12
open PySem Ev
def sb : Str → Str → Option Bool := fun c x => if c = "BadTree" ∧ x = "BadTree" then some true else if c = "BadTree" ∧ x = "BadMarks" then some false else if c = "BadTree" ∧ x = "NotGood" then some false else if c = "BadTree" ∧ x = "NoBound" then some false else if c = "BadTree" ∧ x = "NoComb" then some false else if c = "BadTree" ∧ x = "TieError" then some true else if c = "BadTree" ∧ x = "ValueError" then some true else if c = "BadMarks" ∧ x = "BadTree" then some false else if c = "BadMarks" ∧ x = "BadMarks" then some true else if c = "BadMarks" ∧ x = "NotGood" then some false else if c = "BadMarks" ∧ x = "NoBound" then some false else if c = "BadMarks" ∧ x = "NoComb" then some false else if c = "BadMarks" ∧ x = "TieError" then some true else if c = "BadMarks" ∧ x = "ValueError" then some true else if c = "NotGood" ∧ x = "BadTree" then some false else if c = "NotGood" ∧ x = "BadMarks" then some false else if c = "NotGood" ∧ x = "NotGood" then some true else if c = "NotGood" ∧ x = "NoBound" then some false else if c = "NotGood" ∧ x = "NoComb" then some false else if c = "NotGood" ∧ x = "TieError" then some true else if c = "NotGood" ∧ x = "ValueError" then some true else if c = "NoBound" ∧ x = "BadTree" then some false else if c = "NoBound" ∧ x = "BadMarks" then some false else if c = "NoBound" ∧ x = "NotGood" then some false else if c = "NoBound" ∧ x = "NoBound" then some true else if c = "NoBound" ∧ x = "NoComb" then some false else if c = "NoBound" ∧ x = "TieError" then some true else if c = "NoBound" ∧ x = "ValueError" then some true else if c = "NoComb" ∧ x = "BadTree" then some false else if c = "NoComb" ∧ x = "BadMarks" then some false else if c = "NoComb" ∧ x = "NotGood" then some false else if c = "NoComb" ∧ x = "NoBound" then some false else if c = "NoComb" ∧ x = "NoComb" then some true else if c = "NoComb" ∧ x = "TieError" then some true else if c = "NoComb" ∧ x = "ValueError" then some true else none
def W0 : Wd := ⟨fun _ => none,fun x => if x = "MOST_PLACES" then some 12 else none,sb,fun c => decide (c = "BadTree") || decide (c = "BadMarks") || decide (c = "NotGood") || decide (c = "NoBound") || decide (c = "NoComb")⟩
def f_law_cell_at : Fn := mkFn { W0 with F := Fl [] } 2 2 [] Bd.b_law_cell_at
def f_is_rising : Fn := mkFn { W0 with F := Fl [] } 1 1 [] Bd.b_is_rising
def f_is_whole : Fn := mkFn { W0 with F := Fl [] } 2 6 [] Bd.b_is_whole
def f_is_tie : Fn := mkFn { W0 with F := Fl [] } 2 2 [] Bd.b_is_tie
def f_check_tree : Fn := mkFn { W0 with F := Fl [("is_rising",f_is_rising),("is_whole",f_is_whole),("is_tie",f_is_tie)] } 2 2 [] Bd.b_check_tree
def f_Tree : Fn := treeFn f_check_tree
def b_law_which : List Sx := [.asg 1 false (.lst [(.isinst (.var 0) (.cls "BadTree")),(.isinst (.var 0) (.cls "BadMarks")),(.isinst (.var 0) (.cls "NotGood")),(.isinst (.var 0) (.cls "NoBound"))]),.asg 1 false (.bin .add (.var 1) (.lst [(.isinst (.var 0) (.cls "NoComb"))])),.ifs (.or (.not (.isinst (.var 0) (.cls "TieError"))) (.or (.not (.isinst (.var 0) (.cls "ValueError"))) (.cmp .ne (.count (.var 1) (.bl true)) (.int 1)))) [.ret (.neg (.int 1))] [],.ret (.index (.var 1) (.bl true))]
def f_law_which : Fn := mkFn { W0 with F := Fl [] } 1 2 [] b_law_which
def f_check_marks : Fn := mkFn { W0 with F := Fl [] } 2 2 [] Bd.b_check_marks
def f_turned : Fn := mkFn { W0 with F := Fl [("check_marks",f_check_marks)] } 2 2 [] Bd.b_turned
def f_differences : Fn := mkFn { W0 with F := Fl [("check_marks",f_check_marks)] } 2 2 [] Bd.b_differences
def f_is_good : Fn := mkFn { W0 with F := Fl [("differences",f_differences)] } 2 3 [] Bd.b_is_good
def f_check_good : Fn := mkFn { W0 with F := Fl [("is_good",f_is_good)] } 2 2 [] Bd.b_check_good
def f_parts_each_tie : Fn := mkFn { W0 with F := Fl [] } 3 4 [] Bd.b_parts_each_tie
def f_bound : Fn := mkFn { W0 with F := Fl [("check_good",f_check_good),("parts_each_tie",f_parts_each_tie)] } 2 3 [] Bd.b_bound
def f_asked_bound : Fn := mkFn { W0 with F := Fl [("bound",f_bound)] } 2 3 [] Bd.b_asked_bound
def b_tie_between : List Sx := [.ret (.tup [(.index (.var 1) (.var 4)),(.bin .add (.fld (.var 0) false) (.index (.var 3) (.bin .sub (.fld (.var 2) false) (.int 1))))])]
def f_tie_between : Fn := mkFn { W0 with F := Fl [] } 5 5 [] b_tie_between
def f_joined_marks : Fn := mkFn { W0 with F := Fl [] } 3 4 [] Bd.b_joined_marks
def f_moved_ties : Fn := mkFn { W0 with F := Fl [] } 2 2 [] Bd.b_moved_ties
def f_joined : Fn := mkFn { W0 with F := Fl [("asked_bound",f_asked_bound),("check_good",f_check_good),("tie_between",f_tie_between),("Tree",f_Tree),("joined_marks",f_joined_marks),("moved_ties",f_moved_ties)] } 4 7 [] Bd.b_joined
def f_ring_size : Fn := mkFn { W0 with F := Fl [] } 1 1 [] Bd.b_ring_size
def f_laid_tie : Fn := mkFn { W0 with F := Fl [("ring_size",f_ring_size)] } 4 6 [] Bd.b_laid_tie
def f_one_copy : Fn := mkFn { W0 with F := Fl [("laid_tie",f_laid_tie)] } 3 3 [] Bd.b_one_copy
def f_copies : Fn := mkFn { W0 with F := Fl [("check_good",f_check_good),("one_copy",f_one_copy),("ring_size",f_ring_size)] } 2 2 [] Bd.b_copies
def f_neighbours : Fn := mkFn { W0 with F := Fl [] } 2 4 [] Bd.b_neighbours
def f_inner_places : Fn := mkFn { W0 with F := Fl [("neighbours",f_neighbours)] } 1 1 [] Bd.b_inner_places
def f_inner_neighbours : Fn := mkFn { W0 with F := Fl [("inner_places",f_inner_places),("neighbours",f_neighbours)] } 2 3 [] Bd.b_inner_neighbours
def f_row_end : Fn := mkFn { W0 with F := Fl [("inner_places",f_inner_places),("inner_neighbours",f_inner_neighbours)] } 1 2 [] Bd.b_row_end
def f_inner_row : Fn := mkFn { W0 with F := Fl [("inner_neighbours",f_inner_neighbours),("row_end",f_row_end)] } 1 3 [] Bd.b_inner_row
def f_sides : Fn := mkFn { W0 with F := Fl [("inner_row",f_inner_row),("neighbours",f_neighbours)] } 1 7 [] Bd.b_sides
def f_is_comb : Fn := mkFn { W0 with F := Fl [("inner_places",f_inner_places),("inner_neighbours",f_inner_neighbours)] } 1 1 [] Bd.b_is_comb
def f_comb_marks : Fn := mkFn { W0 with F := Fl [("sides",f_sides),("is_comb",f_is_comb)] } 1 4 [] Bd.b_comb_marks
def p_law_met : List Sx := [.asg 1 false (.call "Tree" [(.int 4),(.lst [(.tup [(.int 0),(.int 1)]),(.tup [(.int 1),(.int 2)]),(.tup [(.int 2),(.int 3)])])]),.asg 2 false (.call "Tree" [(.int 7),(.lst [(.tup [(.int 0),(.int 1)]),(.tup [(.int 0),(.int 2)]),(.tup [(.int 0),(.int 3)]),(.tup [(.int 1),(.int 4)]),(.tup [(.int 2),(.int 5)]),(.tup [(.int 3),(.int 6)])])])]
def c_law_met : List Br × (Str × List Ex) := ([⟨(.cmp .eq (.var 0) (.int 0)),"Tree",[(.int 3),(.lst [(.tup [(.int 0),(.int 1)])])]⟩,⟨(.cmp .eq (.var 0) (.int 1)),"Tree",[(.int 4),(.lst [(.tup [(.int 0),(.int 1)]),(.tup [(.int 0),(.int 2)]),(.tup [(.int 1),(.int 2)])])]⟩,⟨(.cmp .eq (.var 0) (.int 2)),"turned",[(.var 1),(.lst [(.int 0),(.int 1),(.int 2),(.int 2)])]⟩,⟨(.cmp .eq (.var 0) (.int 3)),"joined",[(.var 1),(.lst [(.int 0),(.int 3),(.int 1),(.int 2)]),(.var 1),(.lst [(.int 0),(.int 1),(.int 2)])]⟩,⟨(.cmp .eq (.var 0) (.int 4)),"copies",[(.var 1),(.lst [(.int 0),(.int 1),(.int 2),(.int 3)])]⟩,⟨(.cmp .eq (.var 0) (.int 5)),"bound",[(.var 1),(.lst [(.int 3),(.int 2),(.int 1),(.int 0)])]⟩,⟨(.cmp .eq (.var 0) (.int 6)),"joined",[(.call "Tree" [(.int 5),(.lst [(.tup [(.int 0),(.int 1)]),(.tup [(.int 1),(.int 2)]),(.tup [(.int 2),(.int 3)]),(.tup [(.int 3),(.int 4)])])]),(.lst [(.int 3),(.int 0),(.int 4),(.int 2),(.int 1)]),(.var 1),(.lst [(.int 9)])]⟩,⟨(.cmp .eq (.var 0) (.int 7)),"joined",[(.var 1),(.lst [(.int 0),(.int 3),(.int 1),(.int 2)]),(.var 1),(.lst [(.int 0),(.int 1),(.int 2),(.int 3)])]⟩],("comb_marks",[(.var 2)]))
def o_law_met : List Sx := [.ret (.int 9)]
def f_law_met : Fn := mkMid { W0 with F := Fl [("Tree",f_Tree),("turned",f_turned),("joined",f_joined),("copies",f_copies),("bound",f_bound),("comb_marks",f_comb_marks)] } 1 4 p_law_met c_law_met 3 f_law_which o_law_met
def b_law : List Sx := [.asg 1 false (.bin .mod (.call "_law_cell_at" [(.var 0),(.int 0)]) (.int 9)),.forR 2 (.int 0) (.int 9) [.asg 3 false (.bin .mod (.bin .add (.var 1) (.var 2)) (.int 9)),.ifs (.cmp .ne (.call "_law_met" [(.var 3)]) (.ix (.lst [(.int 0),(.int 0),(.int 1),(.int 1),(.int 2),(.int 2),(.int 3),(.int 2),(.int 4)]) (.var 3))) [.ret (.bl false)] []],.ret (.bl true)]
def f_law : Fn := mkFn { W0 with F := Fl [("_law_cell_at",f_law_cell_at),("_law_met",f_law_met)] } 1 4 [] b_law
end K12
set_option maxRecDepth 100000
namespace K12
open PySem Ev
theorem m_at (w : Int) (h0 : 0 ≤ w) (h1 : w < 9) : ∃ r : Int,f_law_met.m [.int w] = some (.ok (.int r)) ∧ ∀ (W : Wd) (ρ : Ev.Env),ρ[3]? = some (some ⟨.int w,false,.fl⟩) → evE W ρ (.ix (.lst [(.int 0),(.int 0),(.int 1),(.int 1),(.int 2),(.int 2),(.int 3),(.int 2),(.int 4)]) (.var 3)) = some (.ok (.int r) .new) := by
  have key : ∀ (v r : Int),w = v → f_law_met.m [.int v] = some (.ok (.int r)) → atI [D.int 0,.int 0,.int 1,.int 1,.int 2,.int 2,.int 3,.int 2,.int 4] v = some (.int r) → ∃ r : Int,f_law_met.m [.int w] = some (.ok (.int r)) ∧ ∀ (W : Wd) (ρ : Ev.Env),ρ[3]? = some (some ⟨.int w,false,.fl⟩) → evE W ρ (.ix (.lst [(.int 0),(.int 0),(.int 1),(.int 1),(.int 2),(.int 2),(.int 3),(.int 2),(.int 4)]) (.var 3)) = some (.ok (.int r) .new) := fun v r e hm ht => by
    subst e
    refine ⟨r,hm,fun W ρ h3 => v_ix (x:=.lst [.int 0,.int 0,.int 1,.int 1,.int 2,.int 2,.int 3,.int 2,.int 4]) (y:=.int w) (t:=.new) (u:=.new) rfl ?_ ht⟩
    (conv => lhs; whnf); rw [h3]; rfl
  have : w = 0 ∨ w = 1 ∨ w = 2 ∨ w = 3 ∨ w = 4 ∨ w = 5 ∨ w = 6 ∨ w = 7 ∨ w = 8 := by omega
  rcases this with e | e | e | e | e | e | e | e | e
  · exact key 0 0 e (by kernel_rfl) rfl
  · exact key 1 0 e (by kernel_rfl) rfl
  · exact key 2 1 e (by kernel_rfl) rfl
  · exact key 3 1 e (by kernel_rfl) rfl
  · exact key 4 2 e (by kernel_rfl) rfl
  · exact key 5 2 e (by kernel_rfl) rfl
  · exact key 6 3 e (by kernel_rfl) rfl
  · exact key 7 2 e (by kernel_rfl) rfl
  · exact key 8 4 e (by kernel_rfl) rfl
abbrev WL : Wd := { W0 with F := Fl [("_law_cell_at",f_law_cell_at),("_law_met",f_law_met)] }
theorem law_true (ns : List Int) (h : ns.length ≤ 63) : f_law.m [.scr ns] = some (.ok (.bl true)) := by
  refine (fn_eq rfl).trans ?_
  obtain ⟨c,hc⟩ := e_cell { W0 with F := Fl [] } ns 0 (by decide)
  replace hc : f_law_cell_at.m [.scr ns,.int 0] = some (.ok (.int c)) := (fn_eq rfl).trans hc
  show endR (evSs WL [some ⟨.scr ns,false,.old⟩,none,none,none] b_law) = _
  unfold b_law
  refine (congrArg endR (seq_nx (s_asg (d:=.int (c % 9)) (v_binI (i:=c) (j:=9) (t:=.new) (u:=.new) (v_callN (fn:=f_law_cell_at) rfl (v_two (t:=.new) (u:=.new) rfl rfl) hc rfl) rfl rfl)))).trans ?_
  obtain ⟨ρ',h1,h2⟩ := for_inv (body:=fun ρ' => evSs WL ρ' [.asg 3 false (.bin .mod (.bin .add (.var 1) (.var 2)) (.int 9)),.ifs (.cmp .ne (.call "_law_met" [(.var 3)]) (.ix (.lst [(.int 0),(.int 0),(.int 1),(.int 1),(.int 2),(.int 2),(.int 3),(.int 2),(.int 4)]) (.var 3))) [.ret (.bl false)] []]) (bd:=fun ρ' x => bindT ρ' .new (.name 2) x)
    (fun k ρ => ∃ x2 x3 : Option Ent,ρ = [some ⟨.scr ns,false,.old⟩,some ⟨.int (c % 9),false,.fl⟩,x2,x3]) 9 0 [some ⟨.scr ns,false,.old⟩,some ⟨.int (c % 9),false,.fl⟩,none,none] ⟨none,none,rfl⟩ fun k ρ _ _ hI => by
      obtain ⟨x2,x3,rfl⟩ := hI
      obtain ⟨r,hm,hx⟩ := m_at ((c % 9 + k) % 9) (Int.emod_nonneg _ (by decide)) (Int.emod_lt_of_pos _ (by decide))
      refine ⟨[some ⟨.scr ns,false,.old⟩,some ⟨.int (c % 9),false,.fl⟩,some ⟨.int k,false,.fl⟩,x3],[some ⟨.scr ns,false,.old⟩,some ⟨.int (c % 9),false,.fl⟩,some ⟨.int k,false,.fl⟩,some ⟨.int ((c % 9 + k) % 9),false,.fl⟩],rfl,?_,_,_,rfl⟩
      refine (seq_nx (s_asg (d:=.int ((c % 9 + k) % 9)) rfl)).trans (seq_one ((s_ifF (v_cmp (op:=.ne) (x:=.int r) (y:=.int r) (t:=.new) (u:=.new) (v_callN (fn:=f_law_met) rfl (v_one (t:=.new) rfl) hm rfl) (hx _ _ rfl) ?_)).trans rfl))
      have : cmpD .ne (.int r) (.int r) = some (!(r == r)) := rfl
      rw [this,beq_self_eq_true]; rfl
  obtain ⟨x2,x3,rfl⟩ := h2
  exact (congrArg endR (seq_nx ((s_forR (m:=0) (n:=9) (t:=.new) (t':=.new) rfl rfl ⟨rfl,rfl⟩).trans h1))).trans rfl
end K12
set_option Elab.async false
set_option maxRecDepth 100000
set_option maxHeartbeats 4000000
def PySem.W.Fast.tw5165193667523354971 : Nat := 0
def PySem.W.Fast.tw11338107553623531291 : Nat := 0
def PySem.W.Fast.tw6603333210426141139 : Nat := 0
def PySem.W.Fast.tw10107709506126764300 : Nat := 0
def PySem.W.Fast.tw3658736687199085878 : Nat := 0
def PySem.W.Fast.tw7533681169495848585 : Nat := 0
def PySem.W.Fast.tw2977446506416786660 : Nat := 0
def PySem.W.Fast.tw4004049541146297646 : Nat := 0
def PySem.W.Fast.tw5653629139768762064 : Nat := 0
def PySem.W.Fast.tw14450952257340797251 : Nat := 0
def PySem.W.Fast.tw1464071560978105679 : Nat := 0
def PySem.W.Fast.tw1362545893374033596 : Nat := 0
def PySem.W.Fast.tw18210781768066550059 : Nat := 0
def PySem.W.Fast.tw11292412545338014531 : Nat := 0
def PySem.W.Fast.tw2603755449129521905 : Nat := 0
def PySem.W.Fast.tw17812756991055514581 : Nat := 0
def PySem.W.Fast.tw2891770449565420721 : Nat := 0
def PySem.W.Fast.tw6880320932236911672 : Nat := 0
def PySem.W.Fast.tw14391528964845993291 : Nat := 0
def PySem.W.Fast.tw18052658522186683261 : Nat := 0
def PySem.W.Fast.tw4215960276879439541 : Nat := 0
def PySem.W.Fast.tw1065553605268342461 : Nat := 0
def PySem.W.Fast.tw18272195680781819393 : Nat := 0
namespace K12
open PySem L2 Ev
def top (i : Nat) : Stmt := PySem.Challenge.pw_markedties_k12_refusals_apart.main.body.getD i (.Pass ⟨0,0,0,0⟩)
abbrev s_init : Stmt := inClass (top 21) 0
theorem init_ok : InitOk s_init := ⟨⟨rfl,rfl,rfl,by decide +kernel,rfl,by decide +kernel,by decide +kernel⟩,⟨_,_,_,_,_,_,_,_,_,_,_,_,_,_,_,rfl⟩,rfl,rfl,rfl,rfl,rfl⟩
abbrev s_law_cell_at : Stmt := top 43
theorem sc_law_cell_at : FnScope ["script","k"] ["script","k"] (defScope s_law_cell_at) := ⟨rfl,rfl,rfl,by decide +kernel,rfl,by decide +kernel,by decide +kernel⟩
theorem tr_law_cell_at : trs (trS true 30 ["script","k"] (defScope s_law_cell_at).names []) (defBody s_law_cell_at) = some Bd.b_law_cell_at := by kernel_rfl
abbrev s_is_rising : Stmt := top 18
theorem sc_is_rising : FnScope ["ties"] ["ties"] (defScope s_is_rising) := ⟨rfl,rfl,rfl,by decide +kernel,rfl,by decide +kernel,by decide +kernel⟩
theorem tr_is_rising : trs (trS true 30 ["ties"] (defScope s_is_rising).names []) (defBody s_is_rising) = some Bd.b_is_rising := by kernel_rfl
abbrev s_is_whole : Stmt := top 19
theorem sc_is_whole : FnScope ["many","ties","groups","tie","kept","gone"] ["many","ties"] (defScope s_is_whole) := ⟨rfl,rfl,rfl,by decide +kernel,rfl,by decide +kernel,by decide +kernel⟩
theorem tr_is_whole : trs (trS true 30 ["many","ties","groups","tie","kept","gone"] (defScope s_is_whole).names []) (defBody s_is_whole) = some Bd.b_is_whole := by kernel_rfl
abbrev s_is_tie : Stmt := top 17
theorem sc_is_tie : FnScope ["many","tie"] ["many","tie"] (defScope s_is_tie) := ⟨rfl,rfl,rfl,by decide +kernel,rfl,by decide +kernel,by decide +kernel⟩
theorem tr_is_tie : trs (trS true 30 ["many","tie"] (defScope s_is_tie).names []) (defBody s_is_tie) = some Bd.b_is_tie := by kernel_rfl
abbrev s_check_tree : Stmt := top 20
theorem sc_check_tree : FnScope ["many","ties"] ["many","ties"] (defScope s_check_tree) := ⟨rfl,rfl,rfl,by decide +kernel,rfl,by decide +kernel,by decide +kernel⟩
theorem tr_check_tree : trs (trS true 30 ["many","ties"] (defScope s_check_tree).names []) (defBody s_check_tree) = some Bd.b_check_tree := by kernel_rfl
abbrev s_law_which : Stmt := top 44
theorem sc_law_which : FnScope ["e","told"] ["e"] (defScope s_law_which) := ⟨rfl,rfl,rfl,by decide +kernel,rfl,by decide +kernel,by decide +kernel⟩
theorem tr_law_which : trs (trW ["e","told"] (defScope s_law_which).names 30) (defBody s_law_which) = some b_law_which := by kernel_rfl
abbrev s_check_marks : Stmt := top 8
theorem sc_check_marks : FnScope ["tree","marks"] ["tree","marks"] (defScope s_check_marks) := ⟨rfl,rfl,rfl,by decide +kernel,rfl,by decide +kernel,by decide +kernel⟩
theorem tr_check_marks : trs (trS true 30 ["tree","marks"] (defScope s_check_marks).names []) (defBody s_check_marks) = some Bd.b_check_marks := by kernel_rfl
abbrev s_turned : Stmt := top 12
theorem sc_turned : FnScope ["tree","marks"] ["tree","marks"] (defScope s_turned) := ⟨rfl,rfl,rfl,by decide +kernel,rfl,by decide +kernel,by decide +kernel⟩
theorem tr_turned : trs (trS true 30 ["tree","marks"] (defScope s_turned).names []) (defBody s_turned) = some Bd.b_turned := by kernel_rfl
abbrev s_differences : Stmt := top 9
theorem sc_differences : FnScope ["tree","marks"] ["tree","marks"] (defScope s_differences) := ⟨rfl,rfl,rfl,by decide +kernel,rfl,by decide +kernel,by decide +kernel⟩
theorem tr_differences : trs (trS true 30 ["tree","marks"] (defScope s_differences).names []) (defBody s_differences) = some Bd.b_differences := by kernel_rfl
abbrev s_is_good : Stmt := top 10
theorem sc_is_good : FnScope ["tree","marks","found"] ["tree","marks"] (defScope s_is_good) := ⟨rfl,rfl,rfl,by decide +kernel,rfl,by decide +kernel,by decide +kernel⟩
theorem tr_is_good : trs (trS true 30 ["tree","marks","found"] (defScope s_is_good).names []) (defBody s_is_good) = some Bd.b_is_good := by kernel_rfl
abbrev s_check_good : Stmt := top 11
theorem sc_check_good : FnScope ["tree","marks"] ["tree","marks"] (defScope s_check_good) := ⟨rfl,rfl,rfl,by decide +kernel,rfl,by decide +kernel,by decide +kernel⟩
theorem tr_check_good : trs (trS true 30 ["tree","marks"] (defScope s_check_good).names []) (defBody s_check_good) = some Bd.b_check_good := by kernel_rfl
abbrev s_parts_each_tie : Stmt := top 13
theorem sc_parts_each_tie : FnScope ["tree","marks","number","tie"] ["tree","marks","number"] (defScope s_parts_each_tie) := ⟨rfl,rfl,rfl,by decide +kernel,rfl,by decide +kernel,by decide +kernel⟩
theorem tr_parts_each_tie : trs (trS true 30 ["tree","marks","number","tie"] (defScope s_parts_each_tie).names []) (defBody s_parts_each_tie) = some Bd.b_parts_each_tie := by kernel_rfl
abbrev s_bound : Stmt := top 14
theorem sc_bound : FnScope ["tree","marks","number"] ["tree","marks"] (defScope s_bound) := ⟨rfl,rfl,rfl,by decide +kernel,rfl,by decide +kernel,by decide +kernel⟩
theorem tr_bound : trs (trS true 30 ["tree","marks","number"] (defScope s_bound).names []) (defBody s_bound) = some Bd.b_bound := by kernel_rfl
abbrev s_asked_bound : Stmt := top 24
theorem sc_asked_bound : FnScope ["tree","marks","found"] ["tree","marks"] (defScope s_asked_bound) := ⟨rfl,rfl,rfl,by decide +kernel,rfl,by decide +kernel,by decide +kernel⟩
theorem tr_asked_bound : trs (trS true 30 ["tree","marks","found"] (defScope s_asked_bound).names []) (defBody s_asked_bound) = some Bd.b_asked_bound := by kernel_rfl
abbrev s_tie_between : Stmt := top 26
theorem sc_tie_between : FnScope ["tree","marks","other","more","parting"] ["tree","marks","other","more","parting"] (defScope s_tie_between) := ⟨rfl,rfl,rfl,by decide +kernel,rfl,by decide +kernel,by decide +kernel⟩
theorem tr_tie_between : trs (trS true 30 ["tree","marks","other","more","parting"] (defScope s_tie_between).names []) (defBody s_tie_between) = some b_tie_between := by kernel_rfl
abbrev s_joined_marks : Stmt := top 27
theorem sc_joined_marks : FnScope ["marks","more","parting","spread"] ["marks","more","parting"] (defScope s_joined_marks) := ⟨rfl,rfl,rfl,by decide +kernel,rfl,by decide +kernel,by decide +kernel⟩
theorem tr_joined_marks : trs (trS true 30 ["marks","more","parting","spread"] (defScope s_joined_marks).names []) (defBody s_joined_marks) = some Bd.b_joined_marks := by kernel_rfl
abbrev s_moved_ties : Stmt := top 25
theorem sc_moved_ties : FnScope ["ties","by"] ["ties","by"] (defScope s_moved_ties) := ⟨rfl,rfl,rfl,by decide +kernel,rfl,by decide +kernel,by decide +kernel⟩
theorem tr_moved_ties : trs (trS true 30 ["ties","by"] (defScope s_moved_ties).names []) (defBody s_moved_ties) = some Bd.b_moved_ties := by kernel_rfl
abbrev s_joined : Stmt := top 28
theorem sc_joined : FnScope ["tree","marks","other","more","parting","between","ties"] ["tree","marks","other","more"] (defScope s_joined) := ⟨rfl,rfl,rfl,by decide +kernel,rfl,by decide +kernel,by decide +kernel⟩
theorem tr_joined : trs (trS true 30 ["tree","marks","other","more","parting","between","ties"] (defScope s_joined).names []) (defBody s_joined) = some Bd.b_joined := by kernel_rfl
abbrev s_ring_size : Stmt := top 38
theorem sc_ring_size : FnScope ["tree"] ["tree"] (defScope s_ring_size) := ⟨rfl,rfl,rfl,by decide +kernel,rfl,by decide +kernel,by decide +kernel⟩
theorem tr_ring_size : trs (trS true 30 ["tree"] (defScope s_ring_size).names []) (defBody s_ring_size) = some Bd.b_ring_size := by kernel_rfl
abbrev s_laid_tie : Stmt := top 39
theorem sc_laid_tie : FnScope ["tree","marks","tie","shift","one","two"] ["tree","marks","tie","shift"] (defScope s_laid_tie) := ⟨rfl,rfl,rfl,by decide +kernel,rfl,by decide +kernel,by decide +kernel⟩
theorem tr_laid_tie : trs (trS true 30 ["tree","marks","tie","shift","one","two"] (defScope s_laid_tie).names []) (defBody s_laid_tie) = some Bd.b_laid_tie := by kernel_rfl
abbrev s_one_copy : Stmt := top 40
theorem sc_one_copy : FnScope ["tree","marks","shift"] ["tree","marks","shift"] (defScope s_one_copy) := ⟨rfl,rfl,rfl,by decide +kernel,rfl,by decide +kernel,by decide +kernel⟩
theorem tr_one_copy : trs (trS true 30 ["tree","marks","shift"] (defScope s_one_copy).names []) (defBody s_one_copy) = some Bd.b_one_copy := by kernel_rfl
abbrev s_copies : Stmt := top 41
theorem sc_copies : FnScope ["tree","marks"] ["tree","marks"] (defScope s_copies) := ⟨rfl,rfl,rfl,by decide +kernel,rfl,by decide +kernel,by decide +kernel⟩
theorem tr_copies : trs (trS true 30 ["tree","marks"] (defScope s_copies).names []) (defBody s_copies) = some Bd.b_copies := by kernel_rfl
abbrev s_neighbours : Stmt := top 22
theorem sc_neighbours : FnScope ["tree","place","lower","higher"] ["tree","place"] (defScope s_neighbours) := ⟨rfl,rfl,rfl,by decide +kernel,rfl,by decide +kernel,by decide +kernel⟩
theorem tr_neighbours : trs (trS true 30 ["tree","place","lower","higher"] (defScope s_neighbours).names []) (defBody s_neighbours) = some Bd.b_neighbours := by kernel_rfl
abbrev s_inner_places : Stmt := top 30
theorem sc_inner_places : FnScope ["tree"] ["tree"] (defScope s_inner_places) := ⟨rfl,rfl,rfl,by decide +kernel,rfl,by decide +kernel,by decide +kernel⟩
theorem tr_inner_places : trs (trS true 30 ["tree"] (defScope s_inner_places).names []) (defBody s_inner_places) = some Bd.b_inner_places := by kernel_rfl
abbrev s_inner_neighbours : Stmt := top 31
theorem sc_inner_neighbours : FnScope ["tree","place","inner"] ["tree","place"] (defScope s_inner_neighbours) := ⟨rfl,rfl,rfl,by decide +kernel,rfl,by decide +kernel,by decide +kernel⟩
theorem tr_inner_neighbours : trs (trS true 30 ["tree","place","inner"] (defScope s_inner_neighbours).names []) (defBody s_inner_neighbours) = some Bd.b_inner_neighbours := by kernel_rfl
abbrev s_row_end : Stmt := top 33
theorem sc_row_end : FnScope ["tree","place"] ["tree"] (defScope s_row_end) := ⟨rfl,rfl,rfl,by decide +kernel,rfl,by decide +kernel,by decide +kernel⟩
theorem tr_row_end : trs (trS true 30 ["tree","place"] (defScope s_row_end).names []) (defBody s_row_end) = some Bd.b_row_end := by kernel_rfl
abbrev s_inner_row : Stmt := top 34
theorem sc_inner_row : FnScope ["tree","row","onward"] ["tree"] (defScope s_inner_row) := ⟨rfl,rfl,rfl,by decide +kernel,rfl,by decide +kernel,by decide +kernel⟩
theorem tr_inner_row : trs (trS true 30 ["tree","row","onward"] (defScope s_inner_row).names ["row"]) (defBody s_inner_row) = some Bd.b_inner_row := by kernel_rfl
abbrev s_sides : Stmt := top 35
theorem sc_sides : FnScope ["tree","row","high","low","k","hanging","met"] ["tree"] (defScope s_sides) := ⟨rfl,rfl,rfl,by decide +kernel,rfl,by decide +kernel,by decide +kernel⟩
theorem tr_sides : trs (trS true 30 ["tree","row","high","low","k","hanging","met"] (defScope s_sides).names ["high","low"]) (defBody s_sides) = some Bd.b_sides := by kernel_rfl
abbrev s_is_comb : Stmt := top 32
theorem sc_is_comb : FnScope ["tree"] ["tree"] (defScope s_is_comb) := ⟨rfl,rfl,rfl,by decide +kernel,rfl,by decide +kernel,by decide +kernel⟩
theorem tr_is_comb : trs (trS true 30 ["tree"] (defScope s_is_comb).names []) (defBody s_is_comb) = some Bd.b_is_comb := by kernel_rfl
abbrev s_comb_marks : Stmt := top 36
theorem sc_comb_marks : FnScope ["tree","parts","marks","k"] ["tree"] (defScope s_comb_marks) := ⟨rfl,rfl,rfl,by decide +kernel,rfl,by decide +kernel,by decide +kernel⟩
theorem tr_comb_marks : trs (trS true 30 ["tree","parts","marks","k"] (defScope s_comb_marks).names ["marks"]) (defBody s_comb_marks) = some Bd.b_comb_marks := by kernel_rfl
abbrev s_law_met : Stmt := top 45
theorem sc_law_met : FnScope ["way","row","star","e"] ["way"] (defScope s_law_met) := ⟨rfl,rfl,rfl,by decide +kernel,rfl,by decide +kernel,by decide +kernel⟩
theorem tr_law_met : ∃ pre post body h₀ pos,defBody s_law_met = pre ++ (.Try body [h₀] [] [] pos :: post) ∧ trs (trS true 30 ["way","row","star","e"] (defScope s_law_met).names []) pre = some p_law_met ∧ trs (trS true 30 ["way","row","star","e"] (defScope s_law_met).names []) post = some o_law_met ∧ trCh ["way","row","star","e"] (defScope s_law_met).names 30 body = some c_law_met ∧ trC2 ["way","row","star","e"] (defScope s_law_met).names h₀ = some (("TieError" : Str),3,("_law_which" : Str)) := ⟨[_,_],[_],_,_,_,rfl,by kernel_rfl,by kernel_rfl,by kernel_rfl,by kernel_rfl⟩
abbrev s_law : Stmt := top 46
theorem sc_law : FnScope ["script","first","k","way"] ["script"] (defScope s_law) := ⟨rfl,rfl,rfl,by decide +kernel,rfl,by decide +kernel,by decide +kernel⟩
theorem tr_law : trs (trS true 30 ["script","first","k","way"] (defScope s_law).names []) (defBody s_law) = some b_law := by kernel_rfl
theorem all_mk (law_true : ∀ ns : List Int,ns.length ≤ 63 → f_law.m [.scr ns] = some (.ok (.bl true))) {l : PySem.W.OpenLaw} {w : World} {K : PySem.W.Frag} {h : Heap} {mg : Str → Option Value} {fa C fI f0 f1 f2 f3 f4 f5 f6 f7 f8 f9 f10 f11 f12 f13 f14 f15 f16 f17 f18 f19 f20 f21 f22 f23 f24 f25 f26 f27 f28 f29 f30 f31 X0 X1 X2 X3 X4 XT : Addr} (X : K.In h) (G : h.Ns mainGlobals mg) (hfa : mg "law" = some (.ref fa))
    (h0 : Hd K "_law_cell_at" s_law_cell_at f0)
    (h1 : Hd K "is_rising" s_is_rising f1)
    (h2 : Hd K "is_whole" s_is_whole f2)
    (h3 : Hd K "is_tie" s_is_tie f3)
    (h4 : Hd K "check_tree" s_check_tree f4)
    (h5 : Hd K "_law_which" s_law_which f5)
    (h6 : Hd K "check_marks" s_check_marks f6)
    (h7 : Hd K "turned" s_turned f7)
    (h8 : Hd K "differences" s_differences f8)
    (h9 : Hd K "is_good" s_is_good f9)
    (h10 : Hd K "check_good" s_check_good f10)
    (h11 : Hd K "parts_each_tie" s_parts_each_tie f11)
    (h12 : Hd K "bound" s_bound f12)
    (h13 : Hd K "asked_bound" s_asked_bound f13)
    (h14 : Hd K "tie_between" s_tie_between f14)
    (h15 : Hd K "joined_marks" s_joined_marks f15)
    (h16 : Hd K "moved_ties" s_moved_ties f16)
    (h17 : Hd K "joined" s_joined f17)
    (h18 : Hd K "ring_size" s_ring_size f18)
    (h19 : Hd K "laid_tie" s_laid_tie f19)
    (h20 : Hd K "one_copy" s_one_copy f20)
    (h21 : Hd K "copies" s_copies f21)
    (h22 : Hd K "neighbours" s_neighbours f22)
    (h23 : Hd K "inner_places" s_inner_places f23)
    (h24 : Hd K "inner_neighbours" s_inner_neighbours f24)
    (h25 : Hd K "row_end" s_row_end f25)
    (h26 : Hd K "inner_row" s_inner_row f26)
    (h27 : Hd K "sides" s_sides f27)
    (h28 : Hd K "is_comb" s_is_comb f28)
    (h29 : Hd K "comb_marks" s_comb_marks f29)
    (h30 : Hd K "_law_met" s_law_met f30)
    (h31 : Hd K "law" s_law f31)
    {od an : Option Addr} {sl : Array (Option Value)} {oc kV dc pm cd ct : Value} (aC : PySem.W.nsIn K mainGlobals "Tree" = some (some (.ref C))) (aI : PySem.W.findIn K (.ref C) "__init__" = some (some (.ref fI))) (iI : PySem.W.isFn K (.ref fI) = true) (lI : K.lookup fI = some ⟨oc,od,.func (PySem.W.fnOf "__init__" "Tree.__init__" (defArgs s_init) (defBody s_init) (defScope s_init) .none kV dc pm an cd ct),sl⟩) (cI : PySem.W.codeIn K cd "Tree.__init__" = true) (kI : PySem.W.keepIn K (.ref fI) = true)
    (pg : PySem.W.plainGet K C Str.empty = true) (hd : PySem.W.hasDictIn K C = true) (po : PySem.W.plainOver K C = true) (sa : PySem.W.findIn K (.ref C) "__setattr__" = some (some (.builtin "object.__setattr__"))) (mk : PySem.W.makesIn K C = true) (kc : PySem.W.keepIn K (.ref C) = true) (nM : PySem.W.findIn K (.ref C) "many" = some none) (nT : PySem.W.findIn K (.ref C) "ties" = some none)
    (x0 : PySem.W.nsIn K mainGlobals "BadTree" = some (some (.ref X0))) (y0 : PySem.W.excIn K X0 [.type "ValueError",.type "Exception",.type "BaseException",.type "object"] "ValueError.__new__" = true)
    (x1 : PySem.W.nsIn K mainGlobals "BadMarks" = some (some (.ref X1))) (y1 : PySem.W.excIn K X1 [.type "ValueError",.type "Exception",.type "BaseException",.type "object"] "ValueError.__new__" = true)
    (x2 : PySem.W.nsIn K mainGlobals "NotGood" = some (some (.ref X2))) (y2 : PySem.W.excIn K X2 [.type "ValueError",.type "Exception",.type "BaseException",.type "object"] "ValueError.__new__" = true)
    (x3 : PySem.W.nsIn K mainGlobals "NoBound" = some (some (.ref X3))) (y3 : PySem.W.excIn K X3 [.type "ValueError",.type "Exception",.type "BaseException",.type "object"] "ValueError.__new__" = true)
    (x4 : PySem.W.nsIn K mainGlobals "NoComb" = some (some (.ref X4))) (y4 : PySem.W.excIn K X4 [.type "ValueError",.type "Exception",.type "BaseException",.type "object"] "ValueError.__new__" = true)
    (xt : PySem.W.nsIn K mainGlobals "TieError" = some (some (.ref XT)))
    (hn : PySem.W.specialIn K (.builtin "object.__class__") "__get__" = some (some (.builtin "getset_descriptor.__get__"))) (ht : PySem.W.takesIn K (.builtin "object.__class__") = some true)
    (ga0 : PySem.W.findIn K (.ref X0) "__getattribute__" = some (some (.builtin "BaseException.__getattribute__"))) (gk0 : PySem.W.findIn K (.ref X0) "__getattr__" = some none) (hb0 : PySem.W.mroIn K X0 (.type "BaseException") = some true) (ha0 : PySem.W.findIn K (.ref X0) "__class__" = some (some (.builtin "object.__class__"))) (hm0 : PySem.W.mroIn K X0 (.type "object") = some true) (u0_T : PySem.W.exmOne K (.ref X0) (.ref XT) = some true)
    (ga1 : PySem.W.findIn K (.ref X1) "__getattribute__" = some (some (.builtin "BaseException.__getattribute__"))) (gk1 : PySem.W.findIn K (.ref X1) "__getattr__" = some none) (hb1 : PySem.W.mroIn K X1 (.type "BaseException") = some true) (ha1 : PySem.W.findIn K (.ref X1) "__class__" = some (some (.builtin "object.__class__"))) (hm1 : PySem.W.mroIn K X1 (.type "object") = some true) (u1_T : PySem.W.exmOne K (.ref X1) (.ref XT) = some true)
    (ga2 : PySem.W.findIn K (.ref X2) "__getattribute__" = some (some (.builtin "BaseException.__getattribute__"))) (gk2 : PySem.W.findIn K (.ref X2) "__getattr__" = some none) (hb2 : PySem.W.mroIn K X2 (.type "BaseException") = some true) (ha2 : PySem.W.findIn K (.ref X2) "__class__" = some (some (.builtin "object.__class__"))) (hm2 : PySem.W.mroIn K X2 (.type "object") = some true) (u2_T : PySem.W.exmOne K (.ref X2) (.ref XT) = some true)
    (ga3 : PySem.W.findIn K (.ref X3) "__getattribute__" = some (some (.builtin "BaseException.__getattribute__"))) (gk3 : PySem.W.findIn K (.ref X3) "__getattr__" = some none) (hb3 : PySem.W.mroIn K X3 (.type "BaseException") = some true) (ha3 : PySem.W.findIn K (.ref X3) "__class__" = some (some (.builtin "object.__class__"))) (hm3 : PySem.W.mroIn K X3 (.type "object") = some true) (u3_T : PySem.W.exmOne K (.ref X3) (.ref XT) = some true)
    (ga4 : PySem.W.findIn K (.ref X4) "__getattribute__" = some (some (.builtin "BaseException.__getattribute__"))) (gk4 : PySem.W.findIn K (.ref X4) "__getattr__" = some none) (hb4 : PySem.W.mroIn K X4 (.type "BaseException") = some true) (ha4 : PySem.W.findIn K (.ref X4) "__class__" = some (some (.builtin "object.__class__"))) (hm4 : PySem.W.mroIn K X4 (.type "object") = some true) (u4_T : PySem.W.exmOne K (.ref X4) (.ref XT) = some true)
    (kt0_0 : PySem.W.kitOne K (.ref X0) (.ref X0) = some true)
    (kt0_1 : PySem.W.kitOne K (.ref X0) (.ref X1) = some false)
    (kt0_2 : PySem.W.kitOne K (.ref X0) (.ref X2) = some false)
    (kt0_3 : PySem.W.kitOne K (.ref X0) (.ref X3) = some false)
    (kt0_4 : PySem.W.kitOne K (.ref X0) (.ref X4) = some false)
    (kt0_5 : PySem.W.kitOne K (.ref X0) (.ref XT) = some true)
    (kt0_6 : PySem.W.kitOne K (.ref X0) (.type "ValueError") = some true)
    (kt1_0 : PySem.W.kitOne K (.ref X1) (.ref X0) = some false)
    (kt1_1 : PySem.W.kitOne K (.ref X1) (.ref X1) = some true)
    (kt1_2 : PySem.W.kitOne K (.ref X1) (.ref X2) = some false)
    (kt1_3 : PySem.W.kitOne K (.ref X1) (.ref X3) = some false)
    (kt1_4 : PySem.W.kitOne K (.ref X1) (.ref X4) = some false)
    (kt1_5 : PySem.W.kitOne K (.ref X1) (.ref XT) = some true)
    (kt1_6 : PySem.W.kitOne K (.ref X1) (.type "ValueError") = some true)
    (kt2_0 : PySem.W.kitOne K (.ref X2) (.ref X0) = some false)
    (kt2_1 : PySem.W.kitOne K (.ref X2) (.ref X1) = some false)
    (kt2_2 : PySem.W.kitOne K (.ref X2) (.ref X2) = some true)
    (kt2_3 : PySem.W.kitOne K (.ref X2) (.ref X3) = some false)
    (kt2_4 : PySem.W.kitOne K (.ref X2) (.ref X4) = some false)
    (kt2_5 : PySem.W.kitOne K (.ref X2) (.ref XT) = some true)
    (kt2_6 : PySem.W.kitOne K (.ref X2) (.type "ValueError") = some true)
    (kt3_0 : PySem.W.kitOne K (.ref X3) (.ref X0) = some false)
    (kt3_1 : PySem.W.kitOne K (.ref X3) (.ref X1) = some false)
    (kt3_2 : PySem.W.kitOne K (.ref X3) (.ref X2) = some false)
    (kt3_3 : PySem.W.kitOne K (.ref X3) (.ref X3) = some true)
    (kt3_4 : PySem.W.kitOne K (.ref X3) (.ref X4) = some false)
    (kt3_5 : PySem.W.kitOne K (.ref X3) (.ref XT) = some true)
    (kt3_6 : PySem.W.kitOne K (.ref X3) (.type "ValueError") = some true)
    (kt4_0 : PySem.W.kitOne K (.ref X4) (.ref X0) = some false)
    (kt4_1 : PySem.W.kitOne K (.ref X4) (.ref X1) = some false)
    (kt4_2 : PySem.W.kitOne K (.ref X4) (.ref X2) = some false)
    (kt4_3 : PySem.W.kitOne K (.ref X4) (.ref X3) = some false)
    (kt4_4 : PySem.W.kitOne K (.ref X4) (.ref X4) = some true)
    (kt4_5 : PySem.W.kitOne K (.ref X4) (.ref XT) = some true)
    (kt4_6 : PySem.W.kitOne K (.ref X4) (.type "ValueError") = some true)
    {tm : Tok} (mp : PySem.W.nsIn K mainGlobals "MOST_PLACES" = some (some (.int 12 tm)))
    (z0 : PySem.W.nsIn K mainGlobals "len" = some none)
    (z1 : PySem.W.nsIn K mainGlobals "range" = some none)
    (z2 : PySem.W.nsIn K mainGlobals "max" = some none)
    (z3 : PySem.W.nsIn K mainGlobals "min" = some none)
    (z4 : PySem.W.nsIn K mainGlobals "sorted" = some none)
    (z5 : PySem.W.nsIn K mainGlobals "list" = some none)
    (z6 : PySem.W.nsIn K mainGlobals "set" = some none)
    (z7 : PySem.W.nsIn K mainGlobals "all" = some none)
    (z8 : PySem.W.nsIn K mainGlobals "isinstance" = some none)
    (z9 : PySem.W.nsIn K mainGlobals "int" = some none)
    (z10 : PySem.W.nsIn K mainGlobals "bool" = some none)
    (z11 : PySem.W.nsIn K mainGlobals "abs" = some none)
    (z12 : PySem.W.nsIn K mainGlobals "tuple" = some none)
    (z13 : PySem.W.nsIn K mainGlobals "zip" = some none)
    (z14 : PySem.W.nsIn K mainGlobals "ValueError" = some none) :
    ∃ fd : FuncData,(∀ (s : Shared) (v : Value),BindsTo s fd ⟨[v],[]⟩ [("script",v)]) ∧ ∀ base : Heap,K.In base → base.Ns mainGlobals mg → FnOk l.prog w K mg base (CX1 l.prog w) 60 fa fd ["script"] (spLaw K) := by
  obtain ⟨_,_,_,_,_,_,_,_,_,a0,l0,c0,k0⟩ := h0
  obtain ⟨_,_,_,_,_,_,_,_,_,a1,l1,c1,k1⟩ := h1
  obtain ⟨_,_,_,_,_,_,_,_,_,a2,l2,c2,k2⟩ := h2
  obtain ⟨_,_,_,_,_,_,_,_,_,a3,l3,c3,k3⟩ := h3
  obtain ⟨_,_,_,_,_,_,_,_,_,a4,l4,c4,k4⟩ := h4
  obtain ⟨_,_,_,_,_,_,_,_,_,a5,l5,c5,k5⟩ := h5
  obtain ⟨_,_,_,_,_,_,_,_,_,a6,l6,c6,k6⟩ := h6
  obtain ⟨_,_,_,_,_,_,_,_,_,a7,l7,c7,k7⟩ := h7
  obtain ⟨_,_,_,_,_,_,_,_,_,a8,l8,c8,k8⟩ := h8
  obtain ⟨_,_,_,_,_,_,_,_,_,a9,l9,c9,k9⟩ := h9
  obtain ⟨_,_,_,_,_,_,_,_,_,a10,l10,c10,k10⟩ := h10
  obtain ⟨_,_,_,_,_,_,_,_,_,a11,l11,c11,k11⟩ := h11
  obtain ⟨_,_,_,_,_,_,_,_,_,a12,l12,c12,k12⟩ := h12
  obtain ⟨_,_,_,_,_,_,_,_,_,a13,l13,c13,k13⟩ := h13
  obtain ⟨_,_,_,_,_,_,_,_,_,a14,l14,c14,k14⟩ := h14
  obtain ⟨_,_,_,_,_,_,_,_,_,a15,l15,c15,k15⟩ := h15
  obtain ⟨_,_,_,_,_,_,_,_,_,a16,l16,c16,k16⟩ := h16
  obtain ⟨_,_,_,_,_,_,_,_,_,a17,l17,c17,k17⟩ := h17
  obtain ⟨_,_,_,_,_,_,_,_,_,a18,l18,c18,k18⟩ := h18
  obtain ⟨_,_,_,_,_,_,_,_,_,a19,l19,c19,k19⟩ := h19
  obtain ⟨_,_,_,_,_,_,_,_,_,a20,l20,c20,k20⟩ := h20
  obtain ⟨_,_,_,_,_,_,_,_,_,a21,l21,c21,k21⟩ := h21
  obtain ⟨_,_,_,_,_,_,_,_,_,a22,l22,c22,k22⟩ := h22
  obtain ⟨_,_,_,_,_,_,_,_,_,a23,l23,c23,k23⟩ := h23
  obtain ⟨_,_,_,_,_,_,_,_,_,a24,l24,c24,k24⟩ := h24
  obtain ⟨_,_,_,_,_,_,_,_,_,a25,l25,c25,k25⟩ := h25
  obtain ⟨_,_,_,_,_,_,_,_,_,a26,l26,c26,k26⟩ := h26
  obtain ⟨_,_,_,_,_,_,_,_,_,a27,l27,c27,k27⟩ := h27
  obtain ⟨_,_,_,_,_,_,_,_,_,a28,l28,c28,k28⟩ := h28
  obtain ⟨_,_,_,_,_,_,_,_,_,a29,l29,c29,k29⟩ := h29
  obtain ⟨_,_,_,_,_,_,_,_,_,a30,l30,c30,k30⟩ := h30
  obtain ⟨odl,anl,sll,ocl,kVl,dcl,pml,cdl,ctl,a31,l31,c31,k31⟩ := h31
  have e := hfa.symm.trans (PySem.W.mg_of X G a31)
  cases e
  let T : Tx := ⟨K,C,fun c => (mg c).getD .none⟩
  have bl : ∀ x ∈ bltNames,mg x = none := all_cons (PySem.W.mg_none_of X G z0) (all_cons (PySem.W.mg_none_of X G z1) (all_cons (PySem.W.mg_none_of X G z2) (all_cons (PySem.W.mg_none_of X G z3) (all_cons (PySem.W.mg_none_of X G z4) (all_cons (PySem.W.mg_none_of X G z5) (all_cons (PySem.W.mg_none_of X G z6) (all_cons (PySem.W.mg_none_of X G z7) (all_cons (PySem.W.mg_none_of X G z8) (all_cons (PySem.W.mg_none_of X G z9) (all_cons (PySem.W.mg_none_of X G z10) (all_cons (PySem.W.mg_none_of X G z11) (all_cons (PySem.W.mg_none_of X G z12) (all_cons (PySem.W.mg_none_of X G z13) (all_cons (PySem.W.mg_none_of X G z14) (all_nil)))))))))))))))
  have gm : ∀ x i,W0.glob x = some i → ∃ t,mg x = some (.int i t) := fun x i hx => by
    simp only [W0] at hx
    split at hx
    · rename_i e; subst e; cases hx; exact ⟨_,PySem.W.mg_of X G mp⟩
    · cases hx
  have xc : ∀ c,W0.exn c = true → ∃ CA,T.cv c = .ref CA ∧ XCls T.K mg c CA := fun c hc => by
    simp only [W0,Bool.or_eq_true,decide_eq_true_eq] at hc
    rcases hc with ((((hc) | hc) | hc) | hc) | hc
    · subst hc; exact ⟨X0,by show (mg "BadTree").getD .none = _; rw [PySem.W.mg_of X G x0]; rfl,⟨PySem.W.mg_of X G x0,y0⟩⟩
    · subst hc; exact ⟨X1,by show (mg "BadMarks").getD .none = _; rw [PySem.W.mg_of X G x1]; rfl,⟨PySem.W.mg_of X G x1,y1⟩⟩
    · subst hc; exact ⟨X2,by show (mg "NotGood").getD .none = _; rw [PySem.W.mg_of X G x2]; rfl,⟨PySem.W.mg_of X G x2,y2⟩⟩
    · subst hc; exact ⟨X3,by show (mg "NoBound").getD .none = _; rw [PySem.W.mg_of X G x3]; rfl,⟨PySem.W.mg_of X G x3,y3⟩⟩
    · subst hc; exact ⟨X4,by show (mg "NoComb").getD .none = _; rw [PySem.W.mg_of X G x4]; rfl,⟨PySem.W.mg_of X G x4,y4⟩⟩
  have cvx : ∀ (c : Str) (Ca : Addr),mg c = some (.ref Ca) → T.cv c = .ref Ca := fun c Ca h => by show (mg c).getD .none = _; rw [h]; rfl
  have ec0 : ExC K X0 := ⟨ga0,gk0,hb0,ha0,hn,ht,hm0⟩
  have ec1 : ExC K X1 := ⟨ga1,gk1,hb1,ha1,hn,ht,hm1⟩
  have ec2 : ExC K X2 := ⟨ga2,gk2,hb2,ha2,hn,ht,hm2⟩
  have ec3 : ExC K X3 := ⟨ga3,gk3,hb3,ha3,hn,ht,hm3⟩
  have ec4 : ExC K X4 := ⟨ga4,gk4,hb4,ha4,hn,ht,hm4⟩
  have EXI : ∀ F : FEnv,ExcI T { W0 with F := F } mg := fun F => ⟨all_cons (.inr ⟨_,PySem.W.mg_of X G x0⟩) (all_cons (.inr ⟨_,PySem.W.mg_of X G x1⟩) (all_cons (.inr ⟨_,PySem.W.mg_of X G x2⟩) (all_cons (.inr ⟨_,PySem.W.mg_of X G x3⟩) (all_cons (.inr ⟨_,PySem.W.mg_of X G x4⟩) (all_cons (.inr ⟨_,PySem.W.mg_of X G xt⟩) (all_cons (.inl rfl) (all_nil))))))),fun c x b h => by
    replace h : sb c x = some b := h
    unfold sb at h
    rcases iteI h with ⟨e,h2⟩ | h
    · obtain ⟨rfl,rfl⟩ := e; cases h2; exact ⟨_,cvx _ _ (PySem.W.mg_of X G x0),ec0,.inr ⟨_,PySem.W.mg_of X G x0,kt0_0⟩⟩
    rcases iteI h with ⟨e,h2⟩ | h
    · obtain ⟨rfl,rfl⟩ := e; cases h2; exact ⟨_,cvx _ _ (PySem.W.mg_of X G x0),ec0,.inr ⟨_,PySem.W.mg_of X G x1,kt0_1⟩⟩
    rcases iteI h with ⟨e,h2⟩ | h
    · obtain ⟨rfl,rfl⟩ := e; cases h2; exact ⟨_,cvx _ _ (PySem.W.mg_of X G x0),ec0,.inr ⟨_,PySem.W.mg_of X G x2,kt0_2⟩⟩
    rcases iteI h with ⟨e,h2⟩ | h
    · obtain ⟨rfl,rfl⟩ := e; cases h2; exact ⟨_,cvx _ _ (PySem.W.mg_of X G x0),ec0,.inr ⟨_,PySem.W.mg_of X G x3,kt0_3⟩⟩
    rcases iteI h with ⟨e,h2⟩ | h
    · obtain ⟨rfl,rfl⟩ := e; cases h2; exact ⟨_,cvx _ _ (PySem.W.mg_of X G x0),ec0,.inr ⟨_,PySem.W.mg_of X G x4,kt0_4⟩⟩
    rcases iteI h with ⟨e,h2⟩ | h
    · obtain ⟨rfl,rfl⟩ := e; cases h2; exact ⟨_,cvx _ _ (PySem.W.mg_of X G x0),ec0,.inr ⟨_,PySem.W.mg_of X G xt,kt0_5⟩⟩
    rcases iteI h with ⟨e,h2⟩ | h
    · obtain ⟨rfl,rfl⟩ := e; cases h2; exact ⟨_,cvx _ _ (PySem.W.mg_of X G x0),ec0,.inl ⟨rfl,kt0_6⟩⟩
    rcases iteI h with ⟨e,h2⟩ | h
    · obtain ⟨rfl,rfl⟩ := e; cases h2; exact ⟨_,cvx _ _ (PySem.W.mg_of X G x1),ec1,.inr ⟨_,PySem.W.mg_of X G x0,kt1_0⟩⟩
    rcases iteI h with ⟨e,h2⟩ | h
    · obtain ⟨rfl,rfl⟩ := e; cases h2; exact ⟨_,cvx _ _ (PySem.W.mg_of X G x1),ec1,.inr ⟨_,PySem.W.mg_of X G x1,kt1_1⟩⟩
    rcases iteI h with ⟨e,h2⟩ | h
    · obtain ⟨rfl,rfl⟩ := e; cases h2; exact ⟨_,cvx _ _ (PySem.W.mg_of X G x1),ec1,.inr ⟨_,PySem.W.mg_of X G x2,kt1_2⟩⟩
    rcases iteI h with ⟨e,h2⟩ | h
    · obtain ⟨rfl,rfl⟩ := e; cases h2; exact ⟨_,cvx _ _ (PySem.W.mg_of X G x1),ec1,.inr ⟨_,PySem.W.mg_of X G x3,kt1_3⟩⟩
    rcases iteI h with ⟨e,h2⟩ | h
    · obtain ⟨rfl,rfl⟩ := e; cases h2; exact ⟨_,cvx _ _ (PySem.W.mg_of X G x1),ec1,.inr ⟨_,PySem.W.mg_of X G x4,kt1_4⟩⟩
    rcases iteI h with ⟨e,h2⟩ | h
    · obtain ⟨rfl,rfl⟩ := e; cases h2; exact ⟨_,cvx _ _ (PySem.W.mg_of X G x1),ec1,.inr ⟨_,PySem.W.mg_of X G xt,kt1_5⟩⟩
    rcases iteI h with ⟨e,h2⟩ | h
    · obtain ⟨rfl,rfl⟩ := e; cases h2; exact ⟨_,cvx _ _ (PySem.W.mg_of X G x1),ec1,.inl ⟨rfl,kt1_6⟩⟩
    rcases iteI h with ⟨e,h2⟩ | h
    · obtain ⟨rfl,rfl⟩ := e; cases h2; exact ⟨_,cvx _ _ (PySem.W.mg_of X G x2),ec2,.inr ⟨_,PySem.W.mg_of X G x0,kt2_0⟩⟩
    rcases iteI h with ⟨e,h2⟩ | h
    · obtain ⟨rfl,rfl⟩ := e; cases h2; exact ⟨_,cvx _ _ (PySem.W.mg_of X G x2),ec2,.inr ⟨_,PySem.W.mg_of X G x1,kt2_1⟩⟩
    rcases iteI h with ⟨e,h2⟩ | h
    · obtain ⟨rfl,rfl⟩ := e; cases h2; exact ⟨_,cvx _ _ (PySem.W.mg_of X G x2),ec2,.inr ⟨_,PySem.W.mg_of X G x2,kt2_2⟩⟩
    rcases iteI h with ⟨e,h2⟩ | h
    · obtain ⟨rfl,rfl⟩ := e; cases h2; exact ⟨_,cvx _ _ (PySem.W.mg_of X G x2),ec2,.inr ⟨_,PySem.W.mg_of X G x3,kt2_3⟩⟩
    rcases iteI h with ⟨e,h2⟩ | h
    · obtain ⟨rfl,rfl⟩ := e; cases h2; exact ⟨_,cvx _ _ (PySem.W.mg_of X G x2),ec2,.inr ⟨_,PySem.W.mg_of X G x4,kt2_4⟩⟩
    rcases iteI h with ⟨e,h2⟩ | h
    · obtain ⟨rfl,rfl⟩ := e; cases h2; exact ⟨_,cvx _ _ (PySem.W.mg_of X G x2),ec2,.inr ⟨_,PySem.W.mg_of X G xt,kt2_5⟩⟩
    rcases iteI h with ⟨e,h2⟩ | h
    · obtain ⟨rfl,rfl⟩ := e; cases h2; exact ⟨_,cvx _ _ (PySem.W.mg_of X G x2),ec2,.inl ⟨rfl,kt2_6⟩⟩
    rcases iteI h with ⟨e,h2⟩ | h
    · obtain ⟨rfl,rfl⟩ := e; cases h2; exact ⟨_,cvx _ _ (PySem.W.mg_of X G x3),ec3,.inr ⟨_,PySem.W.mg_of X G x0,kt3_0⟩⟩
    rcases iteI h with ⟨e,h2⟩ | h
    · obtain ⟨rfl,rfl⟩ := e; cases h2; exact ⟨_,cvx _ _ (PySem.W.mg_of X G x3),ec3,.inr ⟨_,PySem.W.mg_of X G x1,kt3_1⟩⟩
    rcases iteI h with ⟨e,h2⟩ | h
    · obtain ⟨rfl,rfl⟩ := e; cases h2; exact ⟨_,cvx _ _ (PySem.W.mg_of X G x3),ec3,.inr ⟨_,PySem.W.mg_of X G x2,kt3_2⟩⟩
    rcases iteI h with ⟨e,h2⟩ | h
    · obtain ⟨rfl,rfl⟩ := e; cases h2; exact ⟨_,cvx _ _ (PySem.W.mg_of X G x3),ec3,.inr ⟨_,PySem.W.mg_of X G x3,kt3_3⟩⟩
    rcases iteI h with ⟨e,h2⟩ | h
    · obtain ⟨rfl,rfl⟩ := e; cases h2; exact ⟨_,cvx _ _ (PySem.W.mg_of X G x3),ec3,.inr ⟨_,PySem.W.mg_of X G x4,kt3_4⟩⟩
    rcases iteI h with ⟨e,h2⟩ | h
    · obtain ⟨rfl,rfl⟩ := e; cases h2; exact ⟨_,cvx _ _ (PySem.W.mg_of X G x3),ec3,.inr ⟨_,PySem.W.mg_of X G xt,kt3_5⟩⟩
    rcases iteI h with ⟨e,h2⟩ | h
    · obtain ⟨rfl,rfl⟩ := e; cases h2; exact ⟨_,cvx _ _ (PySem.W.mg_of X G x3),ec3,.inl ⟨rfl,kt3_6⟩⟩
    rcases iteI h with ⟨e,h2⟩ | h
    · obtain ⟨rfl,rfl⟩ := e; cases h2; exact ⟨_,cvx _ _ (PySem.W.mg_of X G x4),ec4,.inr ⟨_,PySem.W.mg_of X G x0,kt4_0⟩⟩
    rcases iteI h with ⟨e,h2⟩ | h
    · obtain ⟨rfl,rfl⟩ := e; cases h2; exact ⟨_,cvx _ _ (PySem.W.mg_of X G x4),ec4,.inr ⟨_,PySem.W.mg_of X G x1,kt4_1⟩⟩
    rcases iteI h with ⟨e,h2⟩ | h
    · obtain ⟨rfl,rfl⟩ := e; cases h2; exact ⟨_,cvx _ _ (PySem.W.mg_of X G x4),ec4,.inr ⟨_,PySem.W.mg_of X G x2,kt4_2⟩⟩
    rcases iteI h with ⟨e,h2⟩ | h
    · obtain ⟨rfl,rfl⟩ := e; cases h2; exact ⟨_,cvx _ _ (PySem.W.mg_of X G x4),ec4,.inr ⟨_,PySem.W.mg_of X G x3,kt4_3⟩⟩
    rcases iteI h with ⟨e,h2⟩ | h
    · obtain ⟨rfl,rfl⟩ := e; cases h2; exact ⟨_,cvx _ _ (PySem.W.mg_of X G x4),ec4,.inr ⟨_,PySem.W.mg_of X G x4,kt4_4⟩⟩
    rcases iteI h with ⟨e,h2⟩ | h
    · obtain ⟨rfl,rfl⟩ := e; cases h2; exact ⟨_,cvx _ _ (PySem.W.mg_of X G x4),ec4,.inr ⟨_,PySem.W.mg_of X G xt,kt4_5⟩⟩
    rcases iteI h with ⟨e,h2⟩ | h
    · obtain ⟨rfl,rfl⟩ := e; cases h2; exact ⟨_,cvx _ _ (PySem.W.mg_of X G x4),ec4,.inl ⟨rfl,kt4_6⟩⟩
    cases h⟩
  have X0 : ∀ F : FEnv,Txt T l.prog w mg { W0 with F := F } := fun F => ⟨⟨⟨pg,hd,po,sa⟩,nM,nT⟩,bl,gm,ty_all K,EXI F,xc⟩
  have F0 := fun_mk (st:=s_law_cell_at) l0 c0 k0
  have b0 := F0.binds (ps:=["script","k"]) fun _ _ _ _ _ _ us hl => by obtain ⟨x0,x1,rfl⟩ := len2 hl; rfl
  have m0 := PySem.W.mg_of X G a0
  have F1 := fun_mk (st:=s_is_rising) l1 c1 k1
  have b1 := F1.binds (ps:=["ties"]) fun _ _ _ _ _ _ us hl => by obtain ⟨x0,rfl⟩ := len1 hl; rfl
  have m1 := PySem.W.mg_of X G a1
  have F2 := fun_mk (st:=s_is_whole) l2 c2 k2
  have b2 := F2.binds (ps:=["many","ties"]) fun _ _ _ _ _ _ us hl => by obtain ⟨x0,x1,rfl⟩ := len2 hl; rfl
  have m2 := PySem.W.mg_of X G a2
  have F3 := fun_mk (st:=s_is_tie) l3 c3 k3
  have b3 := F3.binds (ps:=["many","tie"]) fun _ _ _ _ _ _ us hl => by obtain ⟨x0,x1,rfl⟩ := len2 hl; rfl
  have m3 := PySem.W.mg_of X G a3
  have F4 := fun_mk (st:=s_check_tree) l4 c4 k4
  have b4 := F4.binds (ps:=["many","ties"]) fun _ _ _ _ _ _ us hl => by obtain ⟨x0,x1,rfl⟩ := len2 hl; rfl
  have m4 := PySem.W.mg_of X G a4
  have F5 := fun_mk (st:=s_law_which) l5 c5 k5
  have b5 := F5.binds (ps:=["e"]) fun _ _ _ _ _ _ us hl => by obtain ⟨x0,rfl⟩ := len1 hl; rfl
  have m5 := PySem.W.mg_of X G a5
  have F6 := fun_mk (st:=s_check_marks) l6 c6 k6
  have b6 := F6.binds (ps:=["tree","marks"]) fun _ _ _ _ _ _ us hl => by obtain ⟨x0,x1,rfl⟩ := len2 hl; rfl
  have m6 := PySem.W.mg_of X G a6
  have F7 := fun_mk (st:=s_turned) l7 c7 k7
  have b7 := F7.binds (ps:=["tree","marks"]) fun _ _ _ _ _ _ us hl => by obtain ⟨x0,x1,rfl⟩ := len2 hl; rfl
  have m7 := PySem.W.mg_of X G a7
  have F8 := fun_mk (st:=s_differences) l8 c8 k8
  have b8 := F8.binds (ps:=["tree","marks"]) fun _ _ _ _ _ _ us hl => by obtain ⟨x0,x1,rfl⟩ := len2 hl; rfl
  have m8 := PySem.W.mg_of X G a8
  have F9 := fun_mk (st:=s_is_good) l9 c9 k9
  have b9 := F9.binds (ps:=["tree","marks"]) fun _ _ _ _ _ _ us hl => by obtain ⟨x0,x1,rfl⟩ := len2 hl; rfl
  have m9 := PySem.W.mg_of X G a9
  have F10 := fun_mk (st:=s_check_good) l10 c10 k10
  have b10 := F10.binds (ps:=["tree","marks"]) fun _ _ _ _ _ _ us hl => by obtain ⟨x0,x1,rfl⟩ := len2 hl; rfl
  have m10 := PySem.W.mg_of X G a10
  have F11 := fun_mk (st:=s_parts_each_tie) l11 c11 k11
  have b11 := F11.binds (ps:=["tree","marks","number"]) fun _ _ _ _ _ _ us hl => by obtain ⟨x0,x1,x2,rfl⟩ := len3 hl; rfl
  have m11 := PySem.W.mg_of X G a11
  have F12 := fun_mk (st:=s_bound) l12 c12 k12
  have b12 := F12.binds (ps:=["tree","marks"]) fun _ _ _ _ _ _ us hl => by obtain ⟨x0,x1,rfl⟩ := len2 hl; rfl
  have m12 := PySem.W.mg_of X G a12
  have F13 := fun_mk (st:=s_asked_bound) l13 c13 k13
  have b13 := F13.binds (ps:=["tree","marks"]) fun _ _ _ _ _ _ us hl => by obtain ⟨x0,x1,rfl⟩ := len2 hl; rfl
  have m13 := PySem.W.mg_of X G a13
  have F14 := fun_mk (st:=s_tie_between) l14 c14 k14
  have b14 := F14.binds (ps:=["tree","marks","other","more","parting"]) fun _ _ _ _ _ _ us hl => by obtain ⟨x0,x1,x2,x3,x4,rfl⟩ := len5 hl; rfl
  have m14 := PySem.W.mg_of X G a14
  have F15 := fun_mk (st:=s_joined_marks) l15 c15 k15
  have b15 := F15.binds (ps:=["marks","more","parting"]) fun _ _ _ _ _ _ us hl => by obtain ⟨x0,x1,x2,rfl⟩ := len3 hl; rfl
  have m15 := PySem.W.mg_of X G a15
  have F16 := fun_mk (st:=s_moved_ties) l16 c16 k16
  have b16 := F16.binds (ps:=["ties","by"]) fun _ _ _ _ _ _ us hl => by obtain ⟨x0,x1,rfl⟩ := len2 hl; rfl
  have m16 := PySem.W.mg_of X G a16
  have F17 := fun_mk (st:=s_joined) l17 c17 k17
  have b17 := F17.binds (ps:=["tree","marks","other","more"]) fun _ _ _ _ _ _ us hl => by obtain ⟨x0,x1,x2,x3,rfl⟩ := len4 hl; rfl
  have m17 := PySem.W.mg_of X G a17
  have F18 := fun_mk (st:=s_ring_size) l18 c18 k18
  have b18 := F18.binds (ps:=["tree"]) fun _ _ _ _ _ _ us hl => by obtain ⟨x0,rfl⟩ := len1 hl; rfl
  have m18 := PySem.W.mg_of X G a18
  have F19 := fun_mk (st:=s_laid_tie) l19 c19 k19
  have b19 := F19.binds (ps:=["tree","marks","tie","shift"]) fun _ _ _ _ _ _ us hl => by obtain ⟨x0,x1,x2,x3,rfl⟩ := len4 hl; rfl
  have m19 := PySem.W.mg_of X G a19
  have F20 := fun_mk (st:=s_one_copy) l20 c20 k20
  have b20 := F20.binds (ps:=["tree","marks","shift"]) fun _ _ _ _ _ _ us hl => by obtain ⟨x0,x1,x2,rfl⟩ := len3 hl; rfl
  have m20 := PySem.W.mg_of X G a20
  have F21 := fun_mk (st:=s_copies) l21 c21 k21
  have b21 := F21.binds (ps:=["tree","marks"]) fun _ _ _ _ _ _ us hl => by obtain ⟨x0,x1,rfl⟩ := len2 hl; rfl
  have m21 := PySem.W.mg_of X G a21
  have F22 := fun_mk (st:=s_neighbours) l22 c22 k22
  have b22 := F22.binds (ps:=["tree","place"]) fun _ _ _ _ _ _ us hl => by obtain ⟨x0,x1,rfl⟩ := len2 hl; rfl
  have m22 := PySem.W.mg_of X G a22
  have F23 := fun_mk (st:=s_inner_places) l23 c23 k23
  have b23 := F23.binds (ps:=["tree"]) fun _ _ _ _ _ _ us hl => by obtain ⟨x0,rfl⟩ := len1 hl; rfl
  have m23 := PySem.W.mg_of X G a23
  have F24 := fun_mk (st:=s_inner_neighbours) l24 c24 k24
  have b24 := F24.binds (ps:=["tree","place"]) fun _ _ _ _ _ _ us hl => by obtain ⟨x0,x1,rfl⟩ := len2 hl; rfl
  have m24 := PySem.W.mg_of X G a24
  have F25 := fun_mk (st:=s_row_end) l25 c25 k25
  have b25 := F25.binds (ps:=["tree"]) fun _ _ _ _ _ _ us hl => by obtain ⟨x0,rfl⟩ := len1 hl; rfl
  have m25 := PySem.W.mg_of X G a25
  have F26 := fun_mk (st:=s_inner_row) l26 c26 k26
  have b26 := F26.binds (ps:=["tree"]) fun _ _ _ _ _ _ us hl => by obtain ⟨x0,rfl⟩ := len1 hl; rfl
  have m26 := PySem.W.mg_of X G a26
  have F27 := fun_mk (st:=s_sides) l27 c27 k27
  have b27 := F27.binds (ps:=["tree"]) fun _ _ _ _ _ _ us hl => by obtain ⟨x0,rfl⟩ := len1 hl; rfl
  have m27 := PySem.W.mg_of X G a27
  have F28 := fun_mk (st:=s_is_comb) l28 c28 k28
  have b28 := F28.binds (ps:=["tree"]) fun _ _ _ _ _ _ us hl => by obtain ⟨x0,rfl⟩ := len1 hl; rfl
  have m28 := PySem.W.mg_of X G a28
  have F29 := fun_mk (st:=s_comb_marks) l29 c29 k29
  have b29 := F29.binds (ps:=["tree"]) fun _ _ _ _ _ _ us hl => by obtain ⟨x0,rfl⟩ := len1 hl; rfl
  have m29 := PySem.W.mg_of X G a29
  have F30 := fun_mk (st:=s_law_met) l30 c30 k30
  have b30 := F30.binds (ps:=["way"]) fun _ _ _ _ _ _ us hl => by obtain ⟨x0,rfl⟩ := len1 hl; rfl
  have m30 := PySem.W.mg_of X G a30
  have F31 := fun_mk (st:=s_law) l31 c31 k31
  have b31 := F31.binds (ps:=["script"]) fun _ _ _ _ _ _ us hl => by obtain ⟨x0,rfl⟩ := len1 hl; rfl
  have m31 := PySem.W.mg_of X G a31
  have FI := fun_mk (st:=s_init) lI cI kI
  have bI := FI.binds (ps:=["self","many","ties"]) fun _ _ _ _ _ _ us hl => by obtain ⟨x0,x1,x2,rfl⟩ := len3 hl; rfl
  refine ⟨PySem.W.fnOf "law" "law" (defArgs s_law) (defBody s_law) (defScope s_law) .none kVl dcl pml anl cdl ctl,fun s v => .of_eq rfl,fun base _ _ => ?_⟩
  have q_law_cell_at : CallIn T l.prog w mg base 1 "_law_cell_at" f_law_cell_at := def_call (k:=0) (X0 (Fl _)) F0 sc_law_cell_at m0 b0 tr_law_cell_at rfl rfl all_nil
  have q_is_rising : CallIn T l.prog w mg base 1 "is_rising" f_is_rising := def_call (k:=0) (X0 (Fl _)) F1 sc_is_rising m1 b1 tr_is_rising rfl rfl all_nil
  have q_is_whole : CallIn T l.prog w mg base 1 "is_whole" f_is_whole := def_call (k:=0) (X0 (Fl _)) F2 sc_is_whole m2 b2 tr_is_whole rfl rfl all_nil
  have q_is_tie : CallIn T l.prog w mg base 1 "is_tie" f_is_tie := def_call (k:=0) (X0 (Fl _)) F3 sc_is_tie m3 b3 tr_is_tie rfl rfl all_nil
  have q_check_tree : CallIn T l.prog w mg base 2 "check_tree" f_check_tree := def_call (k:=1) (X0 (Fl _)) F4 sc_check_tree m4 b4 tr_check_tree rfl rfl (all_cons (CallIn.mono q_is_rising (by decide)) (all_cons (CallIn.mono q_is_whole (by decide)) (all_cons (CallIn.mono q_is_tie (by decide)) all_nil)))
  have qt_Tree : CallAt T l.prog w mg base 4 "Tree" f_Tree := call_treeT (X0 (Fl [])) init_ok FI bI ⟨mk,aI,iI,kc⟩ (PySem.W.mg_of X G aC) rfl (q_check_tree.mono (by decide))
  have q_Tree : CallIn T l.prog w mg base 4 "Tree" f_Tree := call_tree (X0 (Fl [])) init_ok FI bI ⟨mk,aI,iI,kc⟩ (PySem.W.mg_of X G aC) rfl (q_check_tree.mono (by decide))
  have qh_law_which : CallH T l.prog w mg base 1 "_law_which" f_law_which := held_call (k:=0) (X0 (Fl _)) F5 sc_law_which m5 b5 tr_law_which rfl rfl all_nil
  have q_check_marks : CallIn T l.prog w mg base 1 "check_marks" f_check_marks := def_call (k:=0) (X0 (Fl _)) F6 sc_check_marks m6 b6 tr_check_marks rfl rfl all_nil
  have q_turned : CallIn T l.prog w mg base 2 "turned" f_turned := def_call (k:=1) (X0 (Fl _)) F7 sc_turned m7 b7 tr_turned rfl rfl (all_cons (CallIn.mono q_check_marks (by decide)) all_nil)
  have q_differences : CallIn T l.prog w mg base 2 "differences" f_differences := def_call (k:=1) (X0 (Fl _)) F8 sc_differences m8 b8 tr_differences rfl rfl (all_cons (CallIn.mono q_check_marks (by decide)) all_nil)
  have q_is_good : CallIn T l.prog w mg base 3 "is_good" f_is_good := def_call (k:=2) (X0 (Fl _)) F9 sc_is_good m9 b9 tr_is_good rfl rfl (all_cons (CallIn.mono q_differences (by decide)) all_nil)
  have q_check_good : CallIn T l.prog w mg base 4 "check_good" f_check_good := def_call (k:=3) (X0 (Fl _)) F10 sc_check_good m10 b10 tr_check_good rfl rfl (all_cons (CallIn.mono q_is_good (by decide)) all_nil)
  have q_parts_each_tie : CallIn T l.prog w mg base 1 "parts_each_tie" f_parts_each_tie := def_call (k:=0) (X0 (Fl _)) F11 sc_parts_each_tie m11 b11 tr_parts_each_tie rfl rfl all_nil
  have q_bound : CallIn T l.prog w mg base 5 "bound" f_bound := def_call (k:=4) (X0 (Fl _)) F12 sc_bound m12 b12 tr_bound rfl rfl (all_cons (CallIn.mono q_check_good (by decide)) (all_cons (CallIn.mono q_parts_each_tie (by decide)) all_nil))
  have q_asked_bound : CallIn T l.prog w mg base 6 "asked_bound" f_asked_bound := def_call (k:=5) (X0 (Fl _)) F13 sc_asked_bound m13 b13 tr_asked_bound rfl rfl (all_cons (CallIn.mono q_bound (by decide)) all_nil)
  have q_tie_between : CallIn T l.prog w mg base 1 "tie_between" f_tie_between := def_call (k:=0) (X0 (Fl _)) F14 sc_tie_between m14 b14 tr_tie_between rfl rfl all_nil
  have q_joined_marks : CallIn T l.prog w mg base 1 "joined_marks" f_joined_marks := def_call (k:=0) (X0 (Fl _)) F15 sc_joined_marks m15 b15 tr_joined_marks rfl rfl all_nil
  have q_moved_ties : CallIn T l.prog w mg base 1 "moved_ties" f_moved_ties := def_call (k:=0) (X0 (Fl _)) F16 sc_moved_ties m16 b16 tr_moved_ties rfl rfl all_nil
  have q_joined : CallIn T l.prog w mg base 7 "joined" f_joined := def_call (k:=6) (X0 (Fl _)) F17 sc_joined m17 b17 tr_joined rfl rfl (all_cons (CallIn.mono q_asked_bound (by decide)) (all_cons (CallIn.mono q_check_good (by decide)) (all_cons (CallIn.mono q_tie_between (by decide)) (all_cons (CallIn.mono q_Tree (by decide)) (all_cons (CallIn.mono q_joined_marks (by decide)) (all_cons (CallIn.mono q_moved_ties (by decide)) all_nil))))))
  have q_ring_size : CallIn T l.prog w mg base 1 "ring_size" f_ring_size := def_call (k:=0) (X0 (Fl _)) F18 sc_ring_size m18 b18 tr_ring_size rfl rfl all_nil
  have q_laid_tie : CallIn T l.prog w mg base 2 "laid_tie" f_laid_tie := def_call (k:=1) (X0 (Fl _)) F19 sc_laid_tie m19 b19 tr_laid_tie rfl rfl (all_cons (CallIn.mono q_ring_size (by decide)) all_nil)
  have q_one_copy : CallIn T l.prog w mg base 3 "one_copy" f_one_copy := def_call (k:=2) (X0 (Fl _)) F20 sc_one_copy m20 b20 tr_one_copy rfl rfl (all_cons (CallIn.mono q_laid_tie (by decide)) all_nil)
  have q_copies : CallIn T l.prog w mg base 5 "copies" f_copies := def_call (k:=4) (X0 (Fl _)) F21 sc_copies m21 b21 tr_copies rfl rfl (all_cons (CallIn.mono q_check_good (by decide)) (all_cons (CallIn.mono q_one_copy (by decide)) (all_cons (CallIn.mono q_ring_size (by decide)) all_nil)))
  have q_neighbours : CallIn T l.prog w mg base 1 "neighbours" f_neighbours := def_call (k:=0) (X0 (Fl _)) F22 sc_neighbours m22 b22 tr_neighbours rfl rfl all_nil
  have q_inner_places : CallIn T l.prog w mg base 2 "inner_places" f_inner_places := def_call (k:=1) (X0 (Fl _)) F23 sc_inner_places m23 b23 tr_inner_places rfl rfl (all_cons (CallIn.mono q_neighbours (by decide)) all_nil)
  have q_inner_neighbours : CallIn T l.prog w mg base 3 "inner_neighbours" f_inner_neighbours := def_call (k:=2) (X0 (Fl _)) F24 sc_inner_neighbours m24 b24 tr_inner_neighbours rfl rfl (all_cons (CallIn.mono q_inner_places (by decide)) (all_cons (CallIn.mono q_neighbours (by decide)) all_nil))
  have q_row_end : CallIn T l.prog w mg base 4 "row_end" f_row_end := def_call (k:=3) (X0 (Fl _)) F25 sc_row_end m25 b25 tr_row_end rfl rfl (all_cons (CallIn.mono q_inner_places (by decide)) (all_cons (CallIn.mono q_inner_neighbours (by decide)) all_nil))
  have q_inner_row : CallIn T l.prog w mg base 5 "inner_row" f_inner_row := def_call (k:=4) (X0 (Fl _)) F26 sc_inner_row m26 b26 tr_inner_row rfl rfl (all_cons (CallIn.mono q_inner_neighbours (by decide)) (all_cons (CallIn.mono q_row_end (by decide)) all_nil))
  have q_sides : CallIn T l.prog w mg base 6 "sides" f_sides := def_call (k:=5) (X0 (Fl _)) F27 sc_sides m27 b27 tr_sides rfl rfl (all_cons (CallIn.mono q_inner_row (by decide)) (all_cons (CallIn.mono q_neighbours (by decide)) all_nil))
  have q_is_comb : CallIn T l.prog w mg base 4 "is_comb" f_is_comb := def_call (k:=3) (X0 (Fl _)) F28 sc_is_comb m28 b28 tr_is_comb rfl rfl (all_cons (CallIn.mono q_inner_places (by decide)) (all_cons (CallIn.mono q_inner_neighbours (by decide)) all_nil))
  have q_comb_marks : CallIn T l.prog w mg base 7 "comb_marks" f_comb_marks := def_call (k:=6) (X0 (Fl _)) F29 sc_comb_marks m29 b29 tr_comb_marks rfl rfl (all_cons (CallIn.mono q_sides (by decide)) (all_cons (CallIn.mono q_is_comb (by decide)) all_nil))
  have qt_comb_marks : CallAt T l.prog w mg base 7 "comb_marks" f_comb_marks := def_callT (k:=6) (X0 (Fl _)) F29 sc_comb_marks m29 b29 tr_comb_marks rfl rfl (all_cons (CallIn.mono q_sides (by decide)) (all_cons (CallIn.mono q_is_comb (by decide)) all_nil))
  have qt_bound : CallAt T l.prog w mg base 5 "bound" f_bound := def_callT (k:=4) (X0 (Fl _)) F12 sc_bound m12 b12 tr_bound rfl rfl (all_cons (CallIn.mono q_check_good (by decide)) (all_cons (CallIn.mono q_parts_each_tie (by decide)) all_nil))
  have qt_copies : CallAt T l.prog w mg base 5 "copies" f_copies := def_callT (k:=4) (X0 (Fl _)) F21 sc_copies m21 b21 tr_copies rfl rfl (all_cons (CallIn.mono q_check_good (by decide)) (all_cons (CallIn.mono q_one_copy (by decide)) (all_cons (CallIn.mono q_ring_size (by decide)) all_nil)))
  have qt_joined : CallAt T l.prog w mg base 7 "joined" f_joined := def_callT (k:=6) (X0 (Fl _)) F17 sc_joined m17 b17 tr_joined rfl rfl (all_cons (CallIn.mono q_asked_bound (by decide)) (all_cons (CallIn.mono q_check_good (by decide)) (all_cons (CallIn.mono q_tie_between (by decide)) (all_cons (CallIn.mono q_Tree (by decide)) (all_cons (CallIn.mono q_joined_marks (by decide)) (all_cons (CallIn.mono q_moved_ties (by decide)) all_nil))))))
  have qt_turned : CallAt T l.prog w mg base 2 "turned" f_turned := def_callT (k:=1) (X0 (Fl _)) F7 sc_turned m7 b7 tr_turned rfl rfl (all_cons (CallIn.mono q_check_marks (by decide)) all_nil)
  have SBx : ∀ c,W0.exn c = true → PySem.W.exmOne K (T.cv c) (.ref XT) = some true := fun c hc => by
    simp only [W0,Bool.or_eq_true,decide_eq_true_eq] at hc
    rcases hc with ((((hc) | hc) | hc) | hc) | hc
    · subst hc; rw [cvx _ _ (PySem.W.mg_of X G x0)]; exact u0_T
    · subst hc; rw [cvx _ _ (PySem.W.mg_of X G x1)]; exact u1_T
    · subst hc; rw [cvx _ _ (PySem.W.mg_of X G x2)]; exact u2_T
    · subst hc; rw [cvx _ _ (PySem.W.mg_of X G x3)]; exact u3_T
    · subst hc; rw [cvx _ _ (PySem.W.mg_of X G x4)]; exact u4_T
  have q_law_met : CallIn T l.prog w mg base 8 "_law_met" f_law_met := mid_call (k:=7) (n:=30) (mu:=[]) (X0 (Fl _)) F30 sc_law_met m30 b30 tr_law_met rfl rfl (all_cons (CallIn.mono q_Tree (by decide)) (all_cons (CallIn.mono q_turned (by decide)) (all_cons (CallIn.mono q_joined (by decide)) (all_cons (CallIn.mono q_copies (by decide)) (all_cons (CallIn.mono q_bound (by decide)) (all_cons (CallIn.mono q_comb_marks (by decide)) all_nil)))))) (all_cons (CallAt.mono qt_Tree (by decide)) (all_cons (CallAt.mono qt_turned (by decide)) (all_cons (CallAt.mono qt_joined (by decide)) (all_cons (CallAt.mono qt_copies (by decide)) (all_cons (CallAt.mono qt_bound (by decide)) (all_cons (CallAt.mono qt_comb_marks (by decide)) all_nil)))))) (fun X e1 e2 e3 e4 e5 hr => qh_law_which X e1 e2 e3 e4 e5 (hr.mono (by decide))) ⟨_,PySem.W.mg_of X G xt,SBx⟩ rfl
  refine (law_imp (T:=T) (fn:=f_law) rfl law_true ?_).mono (show 9 ≤ 60 by decide)
  have ql : ∀ p ∈ ([("_law_cell_at",f_law_cell_at),("_law_met",f_law_met)] : List (Str × Fn)),CallIn T l.prog w mg base 8 p.1 p.2 := (all_cons (CallIn.mono q_law_cell_at (by decide)) (all_cons (CallIn.mono q_law_met (by decide)) all_nil))
  refine fn_ok (fn:=f_law) (X0 (Fl _)) F31 sc_law tr_law (calls_of ql) fun ds r e => ?_
  have e' : (if ds.length = 1 then evFn _ _ _ _ ds else none) = some r := e
  split at e'
  · rename_i h; exact ⟨h,e'⟩
  · cases e'
end K12
open PySem PySem.W PyProof.Rows
set_option maxRecDepth 100000 in
set_option maxHeartbeats 0 in
theorem PySem.Challenge.cw_markedties_k12_refusals_apart_holds : PySem.Challenge.rw_markedties_k12_refusals_apart.Holds := by
  w_on; o_law; k_head; (case hw => w_witness2)
  k_fill
  refine Ev.walk (l:=PySem.Challenge.rw_markedties_k12_refusals_apart) rfl rfl (fun w h Y => PySem.W.kIn_of Y) ?F
  case F =>
    intro w mg fa h KX G hmg
    refine' K12.all_mk K12.law_true KX G hmg ?h0 ?h1 ?h2 ?h3 ?h4 ?h5 ?h6 ?h7 ?h8 ?h9 ?h10 ?h11 ?h12 ?h13 ?h14 ?h15 ?h16 ?h17 ?h18 ?h19 ?h20 ?h21 ?h22 ?h23 ?h24 ?h25 ?h26 ?h27 ?h28 ?h29 ?h30 ?h31 ?aC ?aI ?iI ?lI ?cI ?kI ?pg ?hd ?po ?sa ?mk ?kc ?nM ?nT ?x0 ?y0 ?x1 ?y1 ?x2 ?y2 ?x3 ?y3 ?x4 ?y4 ?xt ?hn ?ht ?ga0 ?gk0 ?hb0 ?ha0 ?hm0 ?u0_T ?ga1 ?gk1 ?hb1 ?ha1 ?hm1 ?u1_T ?ga2 ?gk2 ?hb2 ?ha2 ?hm2 ?u2_T ?ga3 ?gk3 ?hb3 ?ha3 ?hm3 ?u3_T ?ga4 ?gk4 ?hb4 ?ha4 ?hm4 ?u4_T ?kt0_0 ?kt0_1 ?kt0_2 ?kt0_3 ?kt0_4 ?kt0_5 ?kt0_6 ?kt1_0 ?kt1_1 ?kt1_2 ?kt1_3 ?kt1_4 ?kt1_5 ?kt1_6 ?kt2_0 ?kt2_1 ?kt2_2 ?kt2_3 ?kt2_4 ?kt2_5 ?kt2_6 ?kt3_0 ?kt3_1 ?kt3_2 ?kt3_3 ?kt3_4 ?kt3_5 ?kt3_6 ?kt4_0 ?kt4_1 ?kt4_2 ?kt4_3 ?kt4_4 ?kt4_5 ?kt4_6 ?mp ?z0 ?z1 ?z2 ?z3 ?z4 ?z5 ?z6 ?z7 ?z8 ?z9 ?z10 ?z11 ?z12 ?z13 ?z14
    (case h0 => exact ⟨_,_,_,_,_,_,_,_,_,by k_is,by k_is,by k_is,by k_is⟩)
    (case h1 => exact ⟨_,_,_,_,_,_,_,_,_,by k_is,by k_is,by k_is,by k_is⟩)
    (case h2 => exact ⟨_,_,_,_,_,_,_,_,_,by k_is,by k_is,by k_is,by k_is⟩)
    (case h3 => exact ⟨_,_,_,_,_,_,_,_,_,by k_is,by k_is,by k_is,by k_is⟩)
    (case h4 => exact ⟨_,_,_,_,_,_,_,_,_,by k_is,by k_is,by k_is,by k_is⟩)
    (case h5 => exact ⟨_,_,_,_,_,_,_,_,_,by k_is,by k_is,by k_is,by k_is⟩)
    (case h6 => exact ⟨_,_,_,_,_,_,_,_,_,by k_is,by k_is,by k_is,by k_is⟩)
    (case h7 => exact ⟨_,_,_,_,_,_,_,_,_,by k_is,by k_is,by k_is,by k_is⟩)
    (case h8 => exact ⟨_,_,_,_,_,_,_,_,_,by k_is,by k_is,by k_is,by k_is⟩)
    (case h9 => exact ⟨_,_,_,_,_,_,_,_,_,by k_is,by k_is,by k_is,by k_is⟩)
    (case h10 => exact ⟨_,_,_,_,_,_,_,_,_,by k_is,by k_is,by k_is,by k_is⟩)
    (case h11 => exact ⟨_,_,_,_,_,_,_,_,_,by k_is,by k_is,by k_is,by k_is⟩)
    (case h12 => exact ⟨_,_,_,_,_,_,_,_,_,by k_is,by k_is,by k_is,by k_is⟩)
    (case h13 => exact ⟨_,_,_,_,_,_,_,_,_,by k_is,by k_is,by k_is,by k_is⟩)
    (case h14 => exact ⟨_,_,_,_,_,_,_,_,_,by k_is,by k_is,by k_is,by k_is⟩)
    (case h15 => exact ⟨_,_,_,_,_,_,_,_,_,by k_is,by k_is,by k_is,by k_is⟩)
    (case h16 => exact ⟨_,_,_,_,_,_,_,_,_,by k_is,by k_is,by k_is,by k_is⟩)
    (case h17 => exact ⟨_,_,_,_,_,_,_,_,_,by k_is,by k_is,by k_is,by k_is⟩)
    (case h18 => exact ⟨_,_,_,_,_,_,_,_,_,by k_is,by k_is,by k_is,by k_is⟩)
    (case h19 => exact ⟨_,_,_,_,_,_,_,_,_,by k_is,by k_is,by k_is,by k_is⟩)
    (case h20 => exact ⟨_,_,_,_,_,_,_,_,_,by k_is,by k_is,by k_is,by k_is⟩)
    (case h21 => exact ⟨_,_,_,_,_,_,_,_,_,by k_is,by k_is,by k_is,by k_is⟩)
    (case h22 => exact ⟨_,_,_,_,_,_,_,_,_,by k_is,by k_is,by k_is,by k_is⟩)
    (case h23 => exact ⟨_,_,_,_,_,_,_,_,_,by k_is,by k_is,by k_is,by k_is⟩)
    (case h24 => exact ⟨_,_,_,_,_,_,_,_,_,by k_is,by k_is,by k_is,by k_is⟩)
    (case h25 => exact ⟨_,_,_,_,_,_,_,_,_,by k_is,by k_is,by k_is,by k_is⟩)
    (case h26 => exact ⟨_,_,_,_,_,_,_,_,_,by k_is,by k_is,by k_is,by k_is⟩)
    (case h27 => exact ⟨_,_,_,_,_,_,_,_,_,by k_is,by k_is,by k_is,by k_is⟩)
    (case h28 => exact ⟨_,_,_,_,_,_,_,_,_,by k_is,by k_is,by k_is,by k_is⟩)
    (case h29 => exact ⟨_,_,_,_,_,_,_,_,_,by k_is,by k_is,by k_is,by k_is⟩)
    (case h30 => exact ⟨_,_,_,_,_,_,_,_,_,by k_is,by k_is,by k_is,by k_is⟩)
    (case h31 => exact ⟨_,_,_,_,_,_,_,_,_,by k_is,by k_is,by k_is,by k_is⟩)
    (case aC => k_is)
    (case aI => k_is)
    (case iI => k_is)
    (case lI => k_is)
    (case cI => k_is)
    (case kI => k_is)
    (case pg => k_is)
    (case hd => k_is)
    (case po => k_is)
    (case sa => k_is)
    (case mk => k_is)
    (case kc => k_is)
    (case nM => k_is)
    (case nT => k_is)
    (case x0 => k_is)
    (case y0 => k_exc)
    (case x1 => k_is)
    (case y1 => k_exc)
    (case x2 => k_is)
    (case y2 => k_exc)
    (case x3 => k_is)
    (case y3 => k_exc)
    (case x4 => k_is)
    (case y4 => k_exc)
    (case xt => k_is)
    (case hn => k_is)
    (case ht => k_is)
    (case ga0 => k_is)
    (case gk0 => k_is)
    (case hb0 => k_is)
    (case ha0 => k_is)
    (case hm0 => k_is)
    (case u0_T => kts_exm)
    (case ga1 => k_is)
    (case gk1 => k_is)
    (case hb1 => k_is)
    (case ha1 => k_is)
    (case hm1 => k_is)
    (case u1_T => kts_exm)
    (case ga2 => k_is)
    (case gk2 => k_is)
    (case hb2 => k_is)
    (case ha2 => k_is)
    (case hm2 => k_is)
    (case u2_T => kts_exm)
    (case ga3 => k_is)
    (case gk3 => k_is)
    (case hb3 => k_is)
    (case ha3 => k_is)
    (case hm3 => k_is)
    (case u3_T => kts_exm)
    (case ga4 => k_is)
    (case gk4 => k_is)
    (case hb4 => k_is)
    (case ha4 => k_is)
    (case hm4 => k_is)
    (case u4_T => kts_exm)
    (case kt0_0 => kit_is)
    (case kt0_1 => kit_is)
    (case kt0_2 => kit_is)
    (case kt0_3 => kit_is)
    (case kt0_4 => kit_is)
    (case kt0_5 => kit_is)
    (case kt0_6 => kit_is)
    (case kt1_0 => kit_is)
    (case kt1_1 => kit_is)
    (case kt1_2 => kit_is)
    (case kt1_3 => kit_is)
    (case kt1_4 => kit_is)
    (case kt1_5 => kit_is)
    (case kt1_6 => kit_is)
    (case kt2_0 => kit_is)
    (case kt2_1 => kit_is)
    (case kt2_2 => kit_is)
    (case kt2_3 => kit_is)
    (case kt2_4 => kit_is)
    (case kt2_5 => kit_is)
    (case kt2_6 => kit_is)
    (case kt3_0 => kit_is)
    (case kt3_1 => kit_is)
    (case kt3_2 => kit_is)
    (case kt3_3 => kit_is)
    (case kt3_4 => kit_is)
    (case kt3_5 => kit_is)
    (case kt3_6 => kit_is)
    (case kt4_0 => kit_is)
    (case kt4_1 => kit_is)
    (case kt4_2 => kit_is)
    (case kt4_3 => kit_is)
    (case kt4_4 => kit_is)
    (case kt4_5 => kit_is)
    (case kt4_6 => kit_is)
    (case mp => k_is)
    (case z0 => k_is)
    (case z1 => k_is)
    (case z2 => k_is)
    (case z3 => k_is)
    (case z4 => k_is)
    (case z5 => k_is)
    (case z6 => k_is)
    (case z7 => k_is)
    (case z8 => k_is)
    (case z9 => k_is)
    (case z10 => k_is)
    (case z11 => k_is)
    (case z12 => k_is)
    (case z13 => k_is)
    (case z14 => k_is)
