import PyProof.Rows.All
import Wide.All
import OpenK.AllK
import Wide.FinOn
import HandS.ForMost
import HandS.Set
import HandS.SetFor
import HandS.Strs
import HandS.More
import HandS.TupMul
import HandS.TupAny
import KE.KRevSl
import HandS.Zip
import HandS.Zip0
import KE.KItemsList
import PyProof.StrOps
import PyProof.EqKinds
import HandS.Dict
import HandS.Exc
import HandS.TryOnly
import HandS.ExcOwn
import HandS.WordsExc
import HandS.Style
import HandS.Wide
import HandS.Flow
import PyProof.NeKinds
import HandS.SetKeys
import HandS.IsInst
import HandS.ExcIs
import HandS.Text
import HandS.ExcValue
import HandS.Comp
import HandS.DictComp
import HandS.Iter
import HandS.ExcField
import HandS.ExcInit
import HandS.Small
import HandS.Conv
import HandS.Defaults
import HandS.HeadEnd
import HandS.HeadHook1
import HandS.HeadHook2
import HandS.Words
import KE.KStateDown
import Lean
import HandS.Head0
import HandS.Head1
import HandS.Head2
import PySem.Challenge.RW_fillbooks_k06_great_terms
set_option Elab.async false
set_option linter.all false
set_option maxRecDepth 100000
/-! terms, what is put into them, the most general solution of pairs -/
namespace Un
abbrev Wd := List Nat
/-- a variable; a name with terms in it -/
inductive Tx where
  | v (x : Wd) | a (n : Wd) (ts : List Tx)
theorem Tx.ind {P : Tx → Prop} (hv : ∀ x, P (.v x)) (ha : ∀ n ts, (∀ t ∈ ts, P t) → P (.a n ts)) : ∀ t, P t := fun t =>
  Tx.rec (motive_1 := P) (motive_2 := fun ts => ∀ t ∈ ts, P t) hv ha (fun t h => by cases h) (fun t ts ht hts u hu => by
    rcases List.mem_cons.mp hu with e | e
    · rw [e]; exact ht
    · exact hts u e) t
mutual
def Tx.sub (s : Wd → Tx) : Tx → Tx
  | .v x => s x
  | .a n ts => .a n (Tx.subs s ts)
def Tx.subs (s : Wd → Tx) : List Tx → List Tx
  | [] => []
  | t :: ts => t.sub s :: Tx.subs s ts
end
theorem subs_map (s : Wd → Tx) : ∀ ts, Tx.subs s ts = ts.map (Tx.sub s)
  | [] => rfl
  | t :: ts => by rw [Tx.subs, subs_map s ts, List.map_cons]
theorem sub_a {s : Wd → Tx} {n : Wd} {ts : List Tx} : (Tx.a n ts).sub s = .a n (ts.map (Tx.sub s)) := by rw [Tx.sub, subs_map]
theorem sub_v {s : Wd → Tx} {x : Wd} : (Tx.v x).sub s = s x := by rw [Tx.sub]
mutual
def Tx.size : Tx → Nat
  | .v _ => 1
  | .a _ ts => 1 + Tx.sizes ts
def Tx.sizes : List Tx → Nat
  | [] => 0
  | t :: ts => t.size + Tx.sizes ts
end
theorem sizes_sum : ∀ ts, Tx.sizes ts = (ts.map Tx.size).sum
  | [] => rfl
  | t :: ts => by rw [Tx.sizes, sizes_sum ts, List.map_cons, List.sum_cons]
theorem size_a {n : Wd} {ts : List Tx} : (Tx.a n ts).size = 1 + (ts.map Tx.size).sum := by rw [Tx.size, sizes_sum]
theorem size_v {x : Wd} : (Tx.v x).size = 1 := by rw [Tx.size]
theorem size_pos : ∀ t : Tx, 0 < t.size
  | .v x => by rw [size_v]; exact Nat.one_pos
  | .a n ts => by rw [size_a]; omega
theorem size_in {n : Wd} {ts : List Tx} {t : Tx} (h : t ∈ ts) : t.size < (Tx.a n ts).size := by
  rw [size_a]
  have : t.size ≤ (ts.map Tx.size).sum := by
    induction ts with
    | nil => cases h
    | cons u us ih =>
      rw [List.map_cons, List.sum_cons]
      rcases List.mem_cons.mp h with e | e
      · rw [e]; omega
      · have := ih e; omega
  omega
mutual
def Tx.vars : Tx → List Wd
  | .v x => [x]
  | .a _ ts => Tx.varss ts
def Tx.varss : List Tx → List Wd
  | [] => []
  | t :: ts => t.vars ++ Tx.varss ts
end
theorem varss_flat : ∀ ts, Tx.varss ts = ts.flatMap Tx.vars
  | [] => rfl
  | t :: ts => by rw [Tx.varss, varss_flat ts, List.flatMap_cons]
theorem vars_a {n : Wd} {ts : List Tx} : (Tx.a n ts).vars = ts.flatMap Tx.vars := by rw [Tx.vars, varss_flat]
theorem vars_v {x : Wd} : (Tx.v x).vars = [x] := by rw [Tx.vars]
theorem vars_in {n : Wd} {ts : List Tx} {t : Tx} {x : Wd} (h : t ∈ ts) (hx : x ∈ t.vars) : x ∈ (Tx.a n ts).vars := by rw [vars_a]; exact List.mem_flatMap.mpr ⟨t, h, hx⟩
/-- the same for the variables that stand in it -/
theorem sub_congr {s s' : Wd → Tx} : ∀ t : Tx, (∀ x ∈ t.vars, s x = s' x) → t.sub s = t.sub s' := by
  apply Tx.ind
  · intro x h
    rw [sub_v, sub_v]
    exact h x (by rw [vars_v]; exact List.mem_singleton_self x)
  · intro n ts ih h
    rw [sub_a, sub_a]
    congr 1
    exact List.map_congr_left fun t ht => ih t ht fun x hx => h x (vars_in ht hx)
theorem sub_id : ∀ t : Tx, t.sub Tx.v = t := by
  apply Tx.ind
  · intro x; rw [sub_v]
  · intro n ts ih
    rw [sub_a]
    congr 1
    conv => rhs; rw [← List.map_id ts]
    exact List.map_congr_left fun t ht => ih t ht
/-- one behind the other -/
theorem sub_sub {s r : Wd → Tx} : ∀ t : Tx, (t.sub s).sub r = t.sub fun x => (s x).sub r := by
  apply Tx.ind
  · intro x; rw [sub_v, sub_v]
  · intro n ts ih
    rw [sub_a, sub_a, sub_a, List.map_map]
    congr 1
    exact List.map_congr_left fun t ht => ih t ht
theorem size_sub {s : Wd → Tx} : ∀ t : Tx, t.size ≤ (t.sub s).size := by
  apply Tx.ind
  · intro x; rw [size_v]; exact size_pos _
  · intro n ts ih
    rw [sub_a, size_a, size_a, List.map_map]
    have : ∀ us : List Tx, (∀ t ∈ us, t.size ≤ (t.sub s).size) → (us.map Tx.size).sum ≤ (us.map (Tx.size ∘ Tx.sub s)).sum := fun us => by
      induction us with
      | nil => intro _; exact Nat.le_refl _
      | cons u us ih2 =>
        intro h
        rw [List.map_cons, List.map_cons, List.sum_cons, List.sum_cons]
        exact Nat.add_le_add (h u List.mem_cons_self) (ih2 fun t ht => h t (List.mem_cons_of_mem _ ht))
    have := this ts ih
    omega
theorem size_sub_var {s : Wd → Tx} {x : Wd} : ∀ t : Tx, x ∈ t.vars → (s x).size ≤ (t.sub s).size := by
  apply Tx.ind
  · intro y h
    rw [vars_v, List.mem_singleton] at h
    rw [sub_v, h]
    exact Nat.le_refl _
  · intro n ts ih h
    rw [vars_a] at h
    obtain ⟨t, ht, hx⟩ := List.mem_flatMap.mp h
    rw [sub_a]
    exact Nat.le_of_lt (Nat.lt_of_le_of_lt (ih t ht hx) (size_in (List.mem_map_of_mem ht)))

/-! ### pairs -/
abbrev Uprs := List (Tx × Tx)
def Unif (s : Wd → Tx) (P : Uprs) : Prop := ∀ p ∈ P, p.1.sub s = p.2.sub s
def Vs (P : Uprs) : List Wd := P.flatMap fun p => p.1.vars ++ p.2.vars
/-- the solution: of it come all others; where variables alone are the same the least one stands for them -/
structure Best (s : Wd → Tx) (P : Uprs) : Prop where
  sol : Unif s P
  most : ∀ r, Unif r P → ∀ x ∈ Vs P, r x = (s x).sub r
  idem : ∀ x ∈ Vs P, (s x).sub s = s x
  inn : ∀ x ∈ Vs P, ∀ y ∈ (s x).vars, y ∈ Vs P
  least : ∀ x ∈ Vs P, ∀ y ∈ Vs P, ∀ z, s x = .v z → s y = .v z → z ∈ Vs P ∧ s z = .v z ∧ z ≤ y
theorem var_of_sub {s : Wd → Tx} {t : Tx} {z : Wd} (h : t.sub s = .v z) : ∃ y, t = .v y := by
  cases t with
  | v y => exact ⟨y, rfl⟩
  | a n ts => rw [sub_a] at h; cases h
/-- there is one -/
theorem Best.one {s s' : Wd → Tx} {P P' : Uprs} (h : Best s P) (h' : Best s' P') (same : ∀ r, Unif r P ↔ Unif r P') (vs : ∀ x, x ∈ Vs P ↔ x ∈ Vs P') : ∀ x ∈ Vs P, s x = s' x := by
  have a : ∀ x ∈ Vs P, s' x = (s x).sub s' := fun x hx => h.most s' ((same s').2 h'.sol) x hx
  have b : ∀ x ∈ Vs P, s x = (s' x).sub s := fun x hx => h'.most s ((same s).1 h.sol) x ((vs x).1 hx)
  -- variables that stand for themselves
  have key : ∀ x ∈ Vs P, ∀ z, s x = .v z → s' x = .v z := fun x hx z hz => by
    have e1 := b x hx
    rw [hz] at e1
    obtain ⟨w, hw⟩ := var_of_sub e1.symm
    rw [hw, sub_v] at e1
    obtain ⟨zV, zz, zx⟩ := h.least x hx x hx z hz hz
    have hw2 : w ∈ Vs P' := h'.inn x ((vs x).1 hx) w (by rw [hw, vars_v]; exact List.mem_singleton_self w)
    have hwV : w ∈ Vs P := (vs w).2 hw2
    -- w and z stand for one another
    have e2 : s' z = .v w := by
      have := a x hx
      rw [hz, sub_v, hw] at this
      exact this.symm
    have e3 : s w = .v z := e1.symm
    have le1 : z ≤ w := (h.least x hx w hwV z hz e3).2.2
    have le2 : w ≤ z := (h'.least x ((vs x).1 hx) z ((vs z).1 zV) w hw e2).2.2
    have : w = z := List.le_antisymm le2 le1
    rw [hw, this]
  intro x hx
  rw [a x hx]
  conv => lhs; rw [← sub_id (s x)]
  refine sub_congr _ fun y hy => ?_
  have hyV := h.inn x hx y hy
  -- y stands for itself
  have hy2 : s y = .v y := by
    have e : (s x).sub s = (s x).sub Tx.v := by rw [h.idem x hx, sub_id]
    clear a b key
    revert hy e
    generalize s x = t
    revert t
    apply Tx.ind
    · intro z hz e
      rw [vars_v, List.mem_singleton] at hz
      rw [sub_v, sub_v] at e
      rw [hz]; exact e
    · intro n ts ih hz e
      rw [vars_a] at hz
      obtain ⟨t, ht, hyt⟩ := List.mem_flatMap.mp hz
      rw [sub_a, sub_a] at e
      injection e with _ e
      exact ih t ht hyt (List.map_inj_left.mp e t ht)
  exact (key y hyV y hy2).symm
end Un

set_option Elab.async false
set_option linter.all false
set_option maxRecDepth 100000
/-! the best solution, out of classes of parts that have to be the same -/
namespace Un
/-- parts by numbers, and the number of the leader of each one's class -/
structure Cls (P : Uprs) (N : Nat) (pt : Nat → Tx) (inr : Nat → List Nat) (L : Nat → Nat) : Prop where
  inn : ∀ i, i < N → ∀ n ts, pt i = .a n ts → (inr i).map pt = ts ∧ ∀ j ∈ inr i, j < N
  lt : ∀ i, i < N → L i < N
  one : ∀ i j x, i < N → j < N → pt i = .v x → pt j = .v x → L i = L j
  top : ∀ i, i < N → L (L i) = L i
  made : ∀ i, i < N → ∀ x, pt (L i) = .v x → ∃ y, pt i = .v y
  fit : ∀ i, i < N → ∀ n ts m us, pt i = .a n ts → pt (L i) = .a m us → n = m ∧ (inr i).map L = (inr (L i)).map L
  due : ∀ r, Unif r P → ∀ i, i < N → (pt i).sub r = (pt (L i)).sub r
  prs : ∀ p ∈ P, ∃ i j, i < N ∧ j < N ∧ pt i = p.1 ∧ pt j = p.2 ∧ L i = L j
  var : ∀ x, x ∈ Vs P ↔ ∃ i, i < N ∧ pt i = .v x
/-- what is told of a leader's class -/
structure Told (N : Nat) (pt : Nat → Tx) (inr : Nat → List Nat) (L : Nat → Nat) (T : Nat → Tx) (rk : Nat → Nat) : Prop where
  var : ∀ l, l < N → L l = l → ∀ x, pt l = .v x → ∃ z, T l = .v z ∧ (∃ i, i < N ∧ L i = l ∧ pt i = .v z) ∧ ∀ i y, i < N → L i = l → pt i = .v y → z ≤ y
  made : ∀ l, l < N → L l = l → ∀ n ts, pt l = .a n ts → T l = .a n ((inr l).map fun j => T (L j)) ∧ ∀ j ∈ inr l, rk (L j) < rk l
variable {P : Uprs} {N : Nat} {pt : Nat → Tx} {inr : Nat → List Nat} {L : Nat → Nat} {T : Nat → Tx} {rk : Nat → Nat} {s : Wd → Tx}
theorem Cls.all_told (C : Cls P N pt inr L) (D : Told N pt inr L T rk) (hs : ∀ i, i < N → ∀ x, pt i = .v x → s x = T (L i)) : ∀ t i, i < N → pt i = t → (pt i).sub s = T (L i) := by
  apply Tx.ind
  · intro x i hi e
    rw [e, sub_v]
    exact hs i hi x e
  · intro n ts ih i hi e
    obtain ⟨e1, e2⟩ := C.inn i hi n ts e
    cases eL : pt (L i) with
    | v x =>
      obtain ⟨y, ey⟩ := C.made i hi x eL
      rw [e] at ey; cases ey
    | a m us =>
      obtain ⟨rfl, em⟩ := C.fit i hi n ts m us e eL
      obtain ⟨eT, _⟩ := D.made (L i) (C.lt i hi) (C.top i hi) n us eL
      rw [e, sub_a, eT]
      congr 1
      rw [← e1, List.map_map]
      have a1 : (inr i).map (Tx.sub s ∘ pt) = ((inr i).map L).map T := by
        rw [List.map_map]
        exact List.map_congr_left fun j hj => ih (pt j) (by rw [← e1]; exact List.mem_map_of_mem hj) j (e2 j hj) rfl
      rw [a1, em, List.map_map]
      rfl
theorem Cls.told_most (C : Cls P N pt inr L) (D : Told N pt inr L T rk) {r : Wd → Tx} (hr : Unif r P) : ∀ k l, rk l = k → l < N → L l = l → (T l).sub r = (pt l).sub r := by
  intro k
  induction k using Nat.strongRecOn with
  | ind k ih =>
    intro l hk hl top
    cases e : pt l with
    | v x =>
      obtain ⟨z, eT, ⟨i, hi, eL, ez⟩, _⟩ := D.var l hl top x e
      rw [eT]
      have := C.due r hr i hi
      rw [eL, ez, e] at this
      exact this
    | a n ts =>
      obtain ⟨e1, e2⟩ := C.inn l hl n ts e
      obtain ⟨eT, up⟩ := D.made l hl top n ts e
      rw [eT, sub_a, sub_a, List.map_map, ← e1, List.map_map]
      congr 1
      refine List.map_congr_left fun j hj => ?_
      show (T (L j)).sub r = (pt j).sub r
      rw [C.due r hr j (e2 j hj)]
      exact ih _ (by rw [← hk]; exact up j hj) (L j) rfl (C.lt j (e2 j hj)) (C.top j (e2 j hj))
theorem Cls.told_vars (C : Cls P N pt inr L) (D : Told N pt inr L T rk) : ∀ k l, rk l = k → l < N → L l = l → ∀ y ∈ (T l).vars, y ∈ Vs P := by
  intro k
  induction k using Nat.strongRecOn with
  | ind k ih =>
    intro l hk hl top y hy
    cases e : pt l with
    | v x =>
      obtain ⟨z, eT, ⟨i, hi, _, ez⟩, _⟩ := D.var l hl top x e
      rw [eT, vars_v, List.mem_singleton] at hy
      rw [hy]
      exact (C.var z).2 ⟨i, hi, ez⟩
    | a n ts =>
      obtain ⟨e1, e2⟩ := C.inn l hl n ts e
      obtain ⟨eT, up⟩ := D.made l hl top n ts e
      rw [eT, vars_a] at hy
      obtain ⟨t, ht, hyt⟩ := List.mem_flatMap.mp hy
      obtain ⟨j, hj, rfl⟩ := List.mem_map.mp ht
      exact ih _ (by rw [← hk]; exact up j hj) (L j) rfl (C.lt j (e2 j hj)) (C.top j (e2 j hj)) y hyt
/-- they tell the best solution -/
theorem Cls.best (C : Cls P N pt inr L) (D : Told N pt inr L T rk) (hs : ∀ i, i < N → ∀ x, pt i = .v x → s x = T (L i)) : Best s P := by
  have all : ∀ i, i < N → (pt i).sub s = T (L i) := fun i hi => C.all_told D hs _ i hi rfl
  have sol : Unif s P := fun p hp => by
    obtain ⟨i, j, hi, hj, e1, e2, eL⟩ := C.prs p hp
    rw [← e1, ← e2, all i hi, all j hj, eL]
  have most : ∀ r, Unif r P → ∀ x ∈ Vs P, r x = (s x).sub r := fun r hr x hx => by
    obtain ⟨i, hi, e⟩ := (C.var x).1 hx
    rw [hs i hi x e, C.told_most D hr _ (L i) rfl (C.lt i hi) (C.top i hi), ← C.due r hr i hi, e, sub_v]
  refine ⟨sol, most, fun x hx => (most s sol x hx).symm, fun x hx y hy => ?_, fun x hx y hy z hz hz2 => ?_⟩
  · obtain ⟨i, hi, e⟩ := (C.var x).1 hx
    rw [hs i hi x e] at hy
    exact C.told_vars D _ (L i) rfl (C.lt i hi) (C.top i hi) y hy
  · obtain ⟨i, hi, e⟩ := (C.var x).1 hx
    obtain ⟨j, hj, e'⟩ := (C.var y).1 hy
    have of : ∀ i, i < N → ∀ x, pt i = .v x → s x = .v z → ∃ m, m < N ∧ L m = L i ∧ pt m = .v z ∧ T (L i) = .v z ∧ ∀ k y, k < N → L k = L i → pt k = .v y → z ≤ y := fun i hi x e hz => by
      rw [hs i hi x e] at hz
      cases eL : pt (L i) with
      | a n ts =>
        have := (D.made (L i) (C.lt i hi) (C.top i hi) n ts eL).1
        rw [hz] at this; cases this
      | v w =>
        obtain ⟨z', eT, ⟨m, hm, em, ez⟩, le⟩ := D.var (L i) (C.lt i hi) (C.top i hi) w eL
        have : z' = z := by rw [eT] at hz; injection hz
        rw [this] at ez eT
        exact ⟨m, hm, em, ez, eT, fun k y hk hL hy => by rw [← this]; exact le k y hk hL hy⟩
    obtain ⟨m, hm, em, ez, eT, le⟩ := of i hi x e hz
    obtain ⟨m2, hm2, em2, ez2, _, le2⟩ := of j hj y e' hz2
    exact ⟨(C.var z).2 ⟨m, hm, ez⟩, by rw [hs m hm z ez, em, eT], le2 j y hj rfl e'⟩
/-- classes that stand in one another: no solution -/
theorem Cls.none (C : Cls P N pt inr L) {S : Nat → Prop} (ne : ∃ l, S l) (hS : ∀ l, S l → l < N ∧ ∃ n ts j, pt l = .a n ts ∧ j ∈ inr l ∧ S (L j)) : ¬ ∃ r, Unif r P := by
  rintro ⟨r, hr⟩
  obtain ⟨l, hl⟩ := ne
  have : ∀ k l, ((pt l).sub r).size = k → ¬ S l := by
    intro k
    induction k using Nat.strongRecOn with
    | ind k ih =>
      intro l hk hl
      obtain ⟨lt, n, ts, j, e, hj, hS2⟩ := hS l hl
      obtain ⟨e1, e2⟩ := C.inn l lt n ts e
      refine ih _ ?_ (L j) rfl hS2
      rw [← C.due r hr j (e2 j hj), ← hk, e, sub_a]
      exact size_in (List.mem_map_of_mem (by rw [← e1]; exact List.mem_map_of_mem hj))
  exact this _ l rfl hl
end Un

set_option Elab.async false
set_option linter.all false
set_option maxRecDepth 100000
/-! merging of classes, step by step -/
namespace Un
/-- what is the same by the classes and by what is still to do -/
inductive Rel (N : Nat) (rt : Nat → Nat) (td : List (Nat × Nat)) : Nat → Nat → Prop
  | rt {i j : Nat} (hi : i < N) (hj : j < N) (e : rt i = rt j) : Rel N rt td i j
  | td {i j : Nat} (h : (i, j) ∈ td) : Rel N rt td i j
  | symm {i j : Nat} (h : Rel N rt td i j) : Rel N rt td j i
  | trans {i j k : Nat} (h : Rel N rt td i j) (h' : Rel N rt td j k) : Rel N rt td i k
theorem Rel.mono {N : Nat} {rt rt' : Nat → Nat} {td td' : List (Nat × Nat)} (a : ∀ i j, i < N → j < N → rt i = rt j → rt' i = rt' j) (b : ∀ p ∈ td, Rel N rt' td' p.1 p.2) {i j : Nat} (h : Rel N rt td i j) : Rel N rt' td' i j := by
  induction h with
  | rt hi hj e => exact .rt hi hj (a _ _ hi hj e)
  | td h => exact b _ h
  | symm _ ih => exact .symm ih
  | trans _ _ ih ih' => exact .trans ih ih'
theorem Rel.done {N : Nat} {rt : Nat → Nat} {i j : Nat} (h : Rel N rt [] i j) : rt i = rt j := by
  induction h with
  | rt _ _ e => exact e
  | td h => cases h
  | symm _ ih => exact ih.symm
  | trans _ _ ih ih' => exact ih.trans ih'
def uq1 {α : Type} (f : Nat → α) (k : Nat) (v : α) : Nat → α := fun i => if i = k then v else f i
theorem uq1_same {α : Type} {f : Nat → α} {k : Nat} {v : α} : uq1 f k v k = v := if_pos rfl
theorem uq1_ne {α : Type} {f : Nat → α} {k i : Nat} {v : α} (h : i ≠ k) : uq1 f k v i = f i := if_neg h
/-- how the parts stand: the first half of Cls -/
structure Prt (P : Uprs) (N : Nat) (pt : Nat → Tx) (inr : Nat → List Nat) : Prop where
  inn : ∀ i, i < N → ∀ n ts, pt i = .a n ts → (inr i).map pt = ts ∧ ∀ j ∈ inr i, j < N
  var : ∀ x, x ∈ Vs P ↔ ∃ i, i < N ∧ pt i = .v x
structure UF (P : Uprs) (N : Nat) (pt : Nat → Tx) (inr : Nat → List Nat) (st : List (Nat × Nat)) (tp ld rt dp : Nat → Nat) (td : List (Nat × Nat)) (nr : Nat) : Prop where
  rtlt : ∀ i, i < N → rt i < N
  rtrt : ∀ i, i < N → rt (rt i) = rt i
  tlt : ∀ i, i < N → tp i < N
  up : ∀ i, i < N → rt (tp i) = rt i
  root : ∀ i, i < N → (tp i = i ↔ rt i = i)
  dep : ∀ i, i < N → tp i ≠ i → dp (tp i) < dp i
  ldc : ∀ i, i < N → ld (rt i) < N ∧ rt (ld (rt i)) = rt i
  lda : ∀ i, i < N → ∀ x, pt (ld (rt i)) = .v x → ∃ y, pt i = .v y
  due : ∀ r, Unif r P → ∀ i j, i < N → j < N → rt i = rt j → (pt i).sub r = (pt j).sub r
  tdlt : ∀ p ∈ td, p.1 < N ∧ p.2 < N
  tdue : ∀ r, Unif r P → ∀ p ∈ td, (pt p.1).sub r = (pt p.2).sub r
  fit : ∀ i, i < N → ∀ n ts m us, pt i = .a n ts → pt (ld (rt i)) = .a m us → n = m ∧ (inr i).length = (inr (ld (rt i))).length ∧ ∀ (k a b : Nat), (inr i)[k]? = some a → (inr (ld (rt i)))[k]? = some b → Rel N rt td a b
  keep : ∀ p ∈ st, Rel N rt td p.1 p.2
  cnt : ((List.range N).filter fun i => tp i == i).length = nr
variable {P : Uprs} {N : Nat} {pt : Nat → Tx} {inr : Nat → List Nat} {st : List (Nat × Nat)} {tp ld rt dp : Nat → Nat} {td : List (Nat × Nat)} {nr : Nat}
theorem UF.init (R : Prt P N pt inr) (st_lt : ∀ p ∈ st, p.1 < N ∧ p.2 < N) (st_due : ∀ r, Unif r P → ∀ p ∈ st, (pt p.1).sub r = (pt p.2).sub r) : UF P N pt inr st id id id (fun _ => 0) st N where
  rtlt := fun i h => h
  rtrt := fun i _ => rfl
  tlt := fun i h => h
  up := fun i _ => rfl
  root := fun i _ => Iff.rfl
  dep := fun i _ h => absurd rfl h
  ldc := fun i h => ⟨h, rfl⟩
  lda := fun i _ x h => ⟨x, h⟩
  due := fun r _ i j _ _ e => by rw [show i = j from e]
  tdlt := st_lt
  tdue := st_due
  fit := fun i hi n ts m us e e' => by
    have : Tx.a n ts = Tx.a m us := by rw [← e]; exact e'
    injection this with a b
    exact ⟨a, rfl, fun k a b h1 h2 => by
      have : a = b := Option.some.inj (h1.symm.trans h2)
      rw [this]
      have hb : b < N := (R.inn i hi n ts e).2 b (List.mem_of_getElem? h2)
      exact .rt hb hb rfl⟩
  keep := fun p h => .td h
  cnt := by
    rw [List.filter_eq_self.mpr (by simp), List.length_range]
/-- two numbers of one class -/
theorem UF.same {p : Nat × Nat} (U : UF P N pt inr st tp ld rt dp (td ++ [p]) nr) (e : rt p.1 = rt p.2) : UF P N pt inr st tp ld rt dp td nr := by
  have lt := U.tdlt p (by simp)
  have mono : ∀ {a b : Nat}, Rel N rt (td ++ [p]) a b → Rel N rt td a b := fun h => h.mono (fun _ _ _ _ e => e) fun q hq => by
    rcases List.mem_append.mp hq with h | h
    · exact .td h
    · rw [List.mem_singleton.mp h]; exact .rt lt.1 lt.2 e
  exact ⟨U.rtlt, U.rtrt, U.tlt, U.up, U.root, U.dep, U.ldc, U.lda, U.due, fun q h => U.tdlt q (List.mem_append_left _ h), fun r hr q h => U.tdue r hr q (List.mem_append_left _ h),
    fun i hi n ts m us e1 e2 => by
      obtain ⟨a, b, c⟩ := U.fit i hi n ts m us e1 e2
      exact ⟨a, b, fun k x y h1 h2 => mono (c k x y h1 h2)⟩, fun q h => mono (U.keep q h), U.cnt⟩
/-- what a union of the classes of hi and lo gives, whoever leads it -/
theorem UF.union {p : Nat × Nat} {hi lo : Nat} (R : Prt P N pt inr) (U : UF P N pt inr st tp ld rt dp (td ++ [p]) nr) (h : (rt p.1 = hi ∧ rt p.2 = lo) ∨ (rt p.1 = lo ∧ rt p.2 = hi)) (ne : hi ≠ lo) {L : Nat} {nw : List (Nat × Nat)}
    (hL : (L = ld hi ∧ ((∃ n ts, pt (ld hi) = .a n ts) ∨ ∃ x, pt (ld lo) = .v x)) ∨ (L = ld lo ∧ ∃ x, pt (ld hi) = .v x))
    (nlt : ∀ q ∈ nw, q.1 < N ∧ q.2 < N) (ndue : ∀ r, Unif r P → ∀ q ∈ nw, (pt q.1).sub r = (pt q.2).sub r)
    (fit : ∀ n ts m us, pt (ld hi) = .a n ts → pt (ld lo) = .a m us → n = m ∧ (inr (ld hi)).length = (inr (ld lo)).length ∧ ∀ (k a b : Nat), (inr (ld hi))[k]? = some a → (inr (ld lo))[k]? = some b → (a, b) ∈ nw) :
    UF P N pt inr st (uq1 tp lo hi) (uq1 ld hi L) (fun i => if rt i = lo then hi else rt i) (fun i => if rt i = lo then dp i + dp hi + 1 else dp i) (td ++ nw) (nr - 1) := by
  have lt := U.tdlt p (by simp)
  have hp : hi < N ∧ lo < N ∧ rt hi = hi ∧ rt lo = lo := by
    rcases h with ⟨a, b⟩ | ⟨a, b⟩
    · rw [← a, ← b]; exact ⟨U.rtlt _ lt.1, U.rtlt _ lt.2, U.rtrt _ lt.1, U.rtrt _ lt.2⟩
    · rw [← a, ← b]; exact ⟨U.rtlt _ lt.2, U.rtlt _ lt.1, U.rtrt _ lt.2, U.rtrt _ lt.1⟩
  obtain ⟨hiN, loN, rhi, rlo⟩ := hp
  have tlo : tp lo = lo := (U.root lo loN).2 rlo
  have thi : tp hi = hi := (U.root hi hiN).2 rhi
  have R2 : ∀ i, (fun i => if rt i = lo then hi else rt i) i = if rt i = lo then hi else rt i := fun _ => rfl
  -- the new relation has the old one in it
  have pq : Rel N (fun i => if rt i = lo then hi else rt i) (td ++ nw) p.1 p.2 := by
    refine .rt lt.1 lt.2 ?_
    rcases h with ⟨a, b⟩ | ⟨a, b⟩
    · show (if rt p.1 = lo then hi else rt p.1) = if rt p.2 = lo then hi else rt p.2
      rw [b, if_pos rfl, a, if_neg ne]
    · show (if rt p.1 = lo then hi else rt p.1) = if rt p.2 = lo then hi else rt p.2
      rw [a, if_pos rfl, b, if_neg ne]
  have mono : ∀ {a b : Nat}, Rel N rt (td ++ [p]) a b → Rel N (fun i => if rt i = lo then hi else rt i) (td ++ nw) a b := fun h => h.mono (fun i j _ _ e => by show (if rt i = lo then hi else rt i) = if rt j = lo then hi else rt j; rw [e]) fun q hq => by
    rcases List.mem_append.mp hq with h | h
    · exact .td (List.mem_append_left _ h)
    · rw [List.mem_singleton.mp h]; exact pq
  have due2 : ∀ r, Unif r P → (pt hi).sub r = (pt lo).sub r := fun r hr => by
    have e := U.tdue r hr p (by simp)
    rcases h with ⟨a, b⟩ | ⟨a, b⟩
    · rw [U.due r hr hi p.1 hiN lt.1 (by rw [rhi, a]), e, U.due r hr p.2 lo lt.2 loN (by rw [rlo, b])]
    · rw [U.due r hr hi p.2 hiN lt.2 (by rw [rhi, b]), ← e, U.due r hr p.1 lo lt.1 loN (by rw [rlo, a])]
  have ldhi := U.ldc hi hiN
  have ldlo := U.ldc lo loN
  rw [rhi] at ldhi
  rw [rlo] at ldlo
  have LN : L < N ∧ (rt L = hi ∨ rt L = lo) := by
    rcases hL with ⟨e, _⟩ | ⟨e, _⟩
    · rw [e]; exact ⟨ldhi.1, .inl ldhi.2⟩
    · rw [e]; exact ⟨ldlo.1, .inr ldlo.2⟩
  refine ⟨fun i hi2 => ?_, fun i hi2 => ?_, fun i hi2 => ?_, fun i hi2 => ?_, fun i hi2 => ?_, fun i hi2 hne => ?_, fun i hi2 => ?_, fun i hi2 x hx => ?_, fun r hr i j h1 h2 e => ?_, fun q hq => ?_, fun r hr q hq => ?_, fun i hi2 n ts m us e1 e2 => ?_, fun q hq => mono (U.keep q hq), ?_⟩
  · show (if rt i = lo then hi else rt i) < N
    split
    · exact hiN
    · exact U.rtlt i hi2
  · show (if rt (if rt i = lo then hi else rt i) = lo then hi else rt (if rt i = lo then hi else rt i)) = if rt i = lo then hi else rt i
    by_cases c : rt i = lo
    · rw [if_pos c, rhi, if_neg ne]
    · rw [if_neg c, U.rtrt i hi2, if_neg c]
  · show uq1 tp lo hi i < N
    by_cases c : i = lo
    · rw [c, uq1_same]; exact hiN
    · rw [uq1_ne c]; exact U.tlt i hi2
  · show (if rt (uq1 tp lo hi i) = lo then hi else rt (uq1 tp lo hi i)) = if rt i = lo then hi else rt i
    by_cases c : i = lo
    · rw [c, uq1_same, rhi, if_neg ne, rlo, if_pos rfl]
    · rw [uq1_ne c, U.up i hi2]
  · show uq1 tp lo hi i = i ↔ (if rt i = lo then hi else rt i) = i
    by_cases c : i = lo
    · rw [c, uq1_same, rlo, if_pos rfl]
    · rw [uq1_ne c, U.root i hi2]
      by_cases c2 : rt i = lo
      · rw [if_pos c2]
        constructor
        · intro e; rw [c2] at e; exact absurd e.symm c
        · intro e; rw [← e, rhi] at c2; exact absurd c2 ne
      · rw [if_neg c2]
  · show (if rt (uq1 tp lo hi i) = lo then dp (uq1 tp lo hi i) + dp hi + 1 else dp (uq1 tp lo hi i)) < if rt i = lo then dp i + dp hi + 1 else dp i
    by_cases c : i = lo
    · rw [c, uq1_same, rhi, if_neg ne, rlo, if_pos rfl]; omega
    · rw [uq1_ne c] at hne ⊢
      have d := U.dep i hi2 hne
      rw [U.up i hi2]
      split <;> omega
  · show uq1 ld hi L (if rt i = lo then hi else rt i) < N ∧ (if rt (uq1 ld hi L (if rt i = lo then hi else rt i)) = lo then hi else rt (uq1 ld hi L (if rt i = lo then hi else rt i))) = if rt i = lo then hi else rt i
    have atHi : uq1 ld hi L hi < N ∧ (if rt (uq1 ld hi L hi) = lo then hi else rt (uq1 ld hi L hi)) = hi := by
      rw [uq1_same]
      refine ⟨LN.1, ?_⟩
      rcases LN.2 with e | e
      · rw [e, if_neg ne]
      · rw [e, if_pos rfl]
    by_cases c : rt i = lo
    · rw [if_pos c]; exact atHi
    · rw [if_neg c]
      by_cases c2 : rt i = hi
      · rw [c2]; exact atHi
      · rw [uq1_ne c2]
        obtain ⟨a, b⟩ := U.ldc i hi2
        exact ⟨a, by rw [b, if_neg c]⟩
  · -- who leads
    have hx : pt (uq1 ld hi L (if rt i = lo then hi else rt i)) = .v x := hx
    have atL : pt L = .v x → (∃ z, pt (ld hi) = .v z) ∧ ∃ z, pt (ld lo) = .v z := fun e => by
      rcases hL with ⟨eL, q⟩ | ⟨eL, q⟩
      · rw [eL] at e
        refine ⟨⟨x, e⟩, ?_⟩
        rcases q with ⟨n, ts, q⟩ | q
        · rw [q] at e; cases e
        · exact q
      · rw [eL] at e
        exact ⟨q, ⟨x, e⟩⟩
    by_cases c : rt i = lo
    · rw [if_pos c, uq1_same] at hx
      obtain ⟨_, z, q⟩ := atL hx
      exact U.lda i hi2 z (by rw [c]; exact q)
    · rw [if_neg c] at hx
      by_cases c2 : rt i = hi
      · rw [c2, uq1_same] at hx
        obtain ⟨⟨z, q⟩, _⟩ := atL hx
        exact U.lda i hi2 z (by rw [c2]; exact q)
      · rw [uq1_ne c2] at hx
        exact U.lda i hi2 x hx
  · have e : (if rt i = lo then hi else rt i) = if rt j = lo then hi else rt j := e
    by_cases c : rt i = lo <;> by_cases c2 : rt j = lo
    · exact U.due r hr i j h1 h2 (by rw [c, c2])
    · rw [if_pos c, if_neg c2] at e
      rw [U.due r hr i lo h1 loN (by rw [c, rlo]), ← due2 r hr, U.due r hr hi j hiN h2 (by rw [rhi, e])]
    · rw [if_neg c, if_pos c2] at e
      rw [U.due r hr i hi h1 hiN (by rw [e, rhi]), due2 r hr, U.due r hr lo j loN h2 (by rw [rlo, c2])]
    · rw [if_neg c, if_neg c2] at e
      exact U.due r hr i j h1 h2 e
  · rcases List.mem_append.mp hq with h | h
    · exact U.tdlt q (List.mem_append_left _ h)
    · exact nlt q h
  · rcases List.mem_append.mp hq with h | h
    · exact U.tdue r hr q (List.mem_append_left _ h)
    · exact ndue r hr q h
  · -- the parts of one class fit
    have e2 : pt (uq1 ld hi L (if rt i = lo then hi else rt i)) = .a m us := e2
    show n = m ∧ (inr i).length = (inr (uq1 ld hi L (if rt i = lo then hi else rt i))).length ∧ ∀ (k a b : Nat), (inr i)[k]? = some a → (inr (uq1 ld hi L (if rt i = lo then hi else rt i)))[k]? = some b → Rel N (fun i => if rt i = lo then hi else rt i) (td ++ nw) a b
    have own : ∀ c, pt (ld (rt i)) = .a m us → ld (rt i) = c → n = m ∧ (inr i).length = (inr c).length ∧ ∀ (k a b : Nat), (inr i)[k]? = some a → (inr c)[k]? = some b → Rel N (fun i => if rt i = lo then hi else rt i) (td ++ nw) a b := fun c e ec => by
      obtain ⟨a1, a2, a3⟩ := U.fit i hi2 n ts m us e1 e
      rw [ec] at a2 a3
      exact ⟨a1, a2, fun k a b q1 q2 => mono (a3 k a b q1 q2)⟩
    -- i's own leader has made things
    have made : ∃ m' us', pt (ld (rt i)) = .a m' us' := by
      cases q : pt (ld (rt i)) with
      | a m' us' => exact ⟨m', us', rfl⟩
      | v z =>
        obtain ⟨y, ey⟩ := U.lda i hi2 z q
        rw [e1] at ey; cases ey
    obtain ⟨m', us', em⟩ := made
    obtain ⟨a1, a2, a3⟩ := U.fit i hi2 n ts m' us' e1 em
    by_cases c : rt i = lo
    · rw [if_pos c, uq1_same] at e2 ⊢
      rw [c] at em a2 a3
      rcases hL with ⟨eL, _⟩ | ⟨eL, _⟩
      · rw [eL] at e2 ⊢
        obtain ⟨f1, f2, f3⟩ := fit m us m' us' e2 em
        refine ⟨by rw [a1, ← f1], by rw [a2, f2], fun k a b q1 q2 => ?_⟩
        have lk : k < (inr (ld lo)).length := by rw [← a2]; exact (List.getElem?_eq_some_iff.mp q1).1
        have q3 : (inr (ld lo))[k]? = some (inr (ld lo))[k] := List.getElem?_eq_getElem lk
        exact .trans (mono (a3 k a _ q1 q3)) (.symm (.td (List.mem_append_right _ (f3 k b _ q2 q3))))
      · rw [eL] at e2 ⊢
        rw [em] at e2; cases e2
        exact ⟨a1, a2, fun k a b q1 q2 => mono (a3 k a b q1 q2)⟩
    · rw [if_neg c] at e2 ⊢
      by_cases c2 : rt i = hi
      · rw [c2, uq1_same] at e2 ⊢
        rw [c2] at em a2 a3
        rcases hL with ⟨eL, _⟩ | ⟨eL, x, ex⟩
        · rw [eL] at e2 ⊢
          rw [em] at e2; cases e2
          exact ⟨a1, a2, fun k a b q1 q2 => mono (a3 k a b q1 q2)⟩
        · rw [em] at ex; cases ex
      · rw [uq1_ne c2] at e2 ⊢
        exact own _ e2 rfl
  · -- one root fewer
    have : ((List.range N).filter fun i => uq1 tp lo hi i == i) = ((List.range N).filter fun i => tp i == i).filter fun i => i != lo := by
      rw [List.filter_filter]
      refine List.filter_congr fun i hi2 => ?_
      by_cases c : i = lo
      · rw [c, uq1_same]; simp [ne]
      · rw [uq1_ne c]; simp [c]
    rw [this]
    have nd : ((List.range N).filter fun i => tp i == i).Nodup := List.nodup_range.filter _
    have mem : lo ∈ (List.range N).filter fun i => tp i == i := List.mem_filter.mpr ⟨List.mem_range.mpr loN, by simp [tlo]⟩
    have e : (((List.range N).filter fun i => tp i == i).filter fun i => i != lo) = ((List.range N).filter fun i => tp i == i).erase lo := (nd.erase_eq_filter lo).symm
    rw [e, List.length_erase_of_mem mem, U.cnt]
/-- names that are not the same: no solution -/
theorem UF.apart {p : Nat × Nat} {hi lo : Nat} (R : Prt P N pt inr) (U : UF P N pt inr st tp ld rt dp (td ++ [p]) nr) (h : (rt p.1 = hi ∧ rt p.2 = lo) ∨ (rt p.1 = lo ∧ rt p.2 = hi)) {n m : Wd} {ts us : List Tx}
    (e1 : pt (ld hi) = .a n ts) (e2 : pt (ld lo) = .a m us) (ne : ¬ (n = m ∧ ts.length = us.length)) : ¬ ∃ r, Unif r P := by
  rintro ⟨r, hr⟩
  have lt := U.tdlt p (by simp)
  have e := U.tdue r hr p (by simp)
  have both : (pt (ld hi)).sub r = (pt (ld lo)).sub r := by
    rcases h with ⟨a, b⟩ | ⟨a, b⟩
    · have q1 := U.ldc p.1 lt.1
      have q2 := U.ldc p.2 lt.2
      rw [a] at q1
      rw [b] at q2
      rw [U.due r hr _ p.1 q1.1 lt.1 (by rw [q1.2, a]), e, U.due r hr p.2 _ lt.2 q2.1 (by rw [q2.2, b])]
    · have q1 := U.ldc p.1 lt.1
      have q2 := U.ldc p.2 lt.2
      rw [a] at q1
      rw [b] at q2
      rw [U.due r hr _ p.2 q2.1 lt.2 (by rw [q2.2, b]), ← e, U.due r hr p.1 _ lt.1 q1.1 (by rw [q1.2, a])]
  rw [e1, e2, sub_a, sub_a] at both
  injection both with a b
  have := congrArg List.length b
  rw [List.length_map, List.length_map] at this
  exact ne ⟨a, this⟩
/-- nothing is left to do -/
theorem UF.cls (R : Prt P N pt inr) (U : UF P N pt inr st tp ld rt dp [] nr) (one : ∀ i j x, i < N → j < N → pt i = .v x → pt j = .v x → i = j ∨ (i, j) ∈ st ∨ (j, i) ∈ st ∨ ∃ k, (k, i) ∈ st ∧ (k, j) ∈ st)
    (prs : ∀ p ∈ P, ∃ i j, i < N ∧ j < N ∧ pt i = p.1 ∧ pt j = p.2 ∧ (i, j) ∈ st) : Cls P N pt inr fun i => ld (rt i) where
  inn := R.inn
  lt := fun i hi => (U.ldc i hi).1
  one := fun i j x hi hj ei ej => by
    have k : ∀ {p : Nat × Nat}, p ∈ st → rt p.1 = rt p.2 := fun h => (U.keep _ h).done
    rcases one i j x hi hj ei ej with e | e | e | ⟨l, e, e'⟩
    · rw [e]
    · rw [k e]
    · rw [k e]
    · rw [← k e, ← k e']
  top := fun i hi => by rw [(U.ldc i hi).2]
  made := fun i hi x e => U.lda i hi x e
  fit := fun i hi n ts m us e1 e2 => by
    obtain ⟨a, b, c⟩ := U.fit i hi n ts m us e1 e2
    refine ⟨a, List.ext_getElem? fun k => ?_⟩
    rw [List.getElem?_map, List.getElem?_map]
    rcases Nat.lt_or_ge k (inr i).length with lk | lk
    · have q1 : (inr i)[k]? = some (inr i)[k] := List.getElem?_eq_getElem lk
      have q2 : (inr (ld (rt i)))[k]? = some ((inr (ld (rt i)))[k]'(by omega)) := List.getElem?_eq_getElem (by omega)
      rw [q1, q2, Option.map_some, Option.map_some, (c k _ _ q1 q2).done]
    · rw [List.getElem?_eq_none lk, List.getElem?_eq_none (by omega)]
  due := fun r hr i hi => U.due r hr i _ hi (U.ldc i hi).1 (U.ldc i hi).2.symm
  prs := fun p hp => by
    obtain ⟨i, j, hi, hj, e1, e2, m⟩ := prs p hp
    exact ⟨i, j, hi, hj, e1, e2, by rw [(U.keep _ m).done]⟩
  var := R.var
end Un

set_option Elab.async false
set_option linter.all false
set_option maxRecDepth 100000
set_option maxHeartbeats 4000000
/-! Mi: sets of texts: set(xs), sorted(set(xs)). -/
namespace Mi
open PySem PySem.Spec PyProof.Rows L2

theorem nodup_len {α : Type} [DecidableEq α] : ∀ {l m : List α}, l.Nodup → (∀ x ∈ l, x ∈ m) → l.length ≤ m.length
  | [], _, _, _ => Nat.zero_le _
  | x :: l, m, d, h => by
    obtain ⟨d1, d2⟩ := List.nodup_cons.mp d
    have hx := h x List.mem_cons_self
    have z := nodup_len (m := m.erase x) d2 fun y hy => (List.mem_erase_of_ne (fun e => d1 (by rw [← e]; exact hy))).2 (h y (List.mem_cons_of_mem _ hy))
    have q := List.length_erase_of_mem hx
    have q2 := List.length_pos_of_mem hx
    rw [List.length_cons]
    omega
/-- the text of an entry -/
def sKey (e : Int × Value) : Str := match e.2 with
  | .str x _ => x
  | _ => Str.empty
def SE (w : World) (e : Int × Value) : Prop := ∃ x t, e.2 = Value.str x t ∧ e.1 = hashStr w x
/-- entries of a set in which just the texts of Ds stand -/
structure SEs (w : World) (Ds : List Str) (es : Array (Int × Value)) (t : SetTable) : Prop where
  all : ∀ e ∈ es.toList, SE w e
  one : (es.toList.map sKey).Nodup
  mem : ∀ x, x ∈ Ds ↔ x ∈ es.toList.map sKey
  few : es.size < scanBound
  fit : t.fits es.size = true
  ris : Ris t.place.toList
  led : w.params.followText "set-order" = true ∨ t.led = true
def SSet (w : World) (h : Heap) (a : Addr) (Ds : List Str) : Prop := ∃ o es ep t, h.get? a = some o ∧ o.ExactSet ∧ o.data = .set es ep t ∧ SEs w Ds es t
section
variable {P : Program} {w : World} {Ds : List Str}
theorem SSet.at {h h' : Heap} {a : Addr} (R : SSet w h a Ds) (k : ∀ o, h.get? a = some o → h'.get? a = some o) : SSet w h' a Ds := by
  obtain ⟨o, es, ep, t, g, r⟩ := R
  exact ⟨o, es, ep, t, k o g, r⟩
theorem SE.kind {l : List (Int × Value)} (g : ∀ e ∈ l, SE w e) : ElemsOf (strKind P w) l := fun e m => by
  obtain ⟨x, t, e1, e2⟩ := g e m
  exact ⟨⟨x, by rw [e1]; exact strKind_is P w x t, e2⟩, by rw [e1]; rfl⟩
theorem SE.is {e : Int × Value} (g : SE w e) (x : Str) : (strKind P w).is x e.2 = true ↔ sKey e = x := by
  obtain ⟨y, t, e1, _⟩ := g
  unfold sKey
  rw [e1]
  constructor
  · intro z
    exact (strKind P w).inj _ _ _ (strKind_is P w y t) z
  · intro z
    subst z
    exact strKind_is P w _ t
theorem SE.mem {l : List (Int × Value)} (g : ∀ e ∈ l, SE w e) (x : Str) : x ∈ l.map sKey ↔ ∃ e ∈ l, (strKind P w).is x e.2 = true := by
  rw [List.mem_map]
  exact ⟨fun ⟨e, m, q⟩ => ⟨e, m, ((g e m).is x).2 q⟩, fun ⟨e, m, q⟩ => ⟨e, m, ((g e m).is x).1 q⟩⟩
theorem SEs.perm {es es' : Array (Int × Value)} {t t' : SetTable} (R : SEs w Ds es t) (p : es'.toList.Perm es.toList) (f : t'.fits es'.size = true) (r : Ris t'.place.toList) (l : t'.led = t.led) : SEs w Ds es' t' where
  all := fun e m => R.all e (p.mem_iff.mp m)
  one := (p.map sKey).nodup_iff.mpr R.one
  mem := fun x => (R.mem x).trans (p.map sKey).mem_iff.symm
  few := by
    have := p.length_eq
    rw [Array.length_toList, Array.length_toList] at this
    rw [this]; exact R.few
  fit := f
  ris := r
  led := by rw [l]; exact R.led
theorem SEs.plain {es : Array (Int × Value)} {t : SetTable} (R : SEs w Ds es t) : SEs w Ds es { t with plain := false } where
  all := R.all
  one := R.one
  mem := R.mem
  few := R.few
  fit := SetTable.fits_plain_off R.fit
  ris := R.ris
  led := R.led
variable {A : Around} {E : Value → Shared → Prop} {s : Shared} {a : Addr}
/-- behind a new entry -/
theorem sset_lay {g : Bool → Sem Unit} (quiet : ∀ (b : Bool) (s1 : Shared) (K : Unit → Shared → Prop), K () s1 → wpAny (model P w) A (g b) K E s1) {o : Obj} {es es1 : Array (Int × Value)} {ep : Nat} {t t1 : SetTable}
    (at_ : s.heap.get? a = some o) (xs : o.ExactSet) (dt : o.data = .set es ep t) (R : SEs w Ds es1 t1) {dummy : Bool} {K : Option Bool → Shared → Prop}
    (fin : ∀ h', Heap.SameBut a s.heap h' → SSet w h' a Ds → K (some true) { s with heap := h' }) :
    wpAny (model P w) A (storeSet a es1 t1 >>= fun _ => if (!dummy && t1.tooFull) = true then (g (relayAll t1 es1 (SetTable.grown es1.size)).2.2 >>= fun _ => storeSet a (relayAll t1 es1 (SetTable.grown es1.size)).1 (relayAll t1 es1 (SetTable.grown es1.size)).2.1 >>= fun _ => pure (some true)) else pure (some true)) K E s := by
  refine wpAny_bind (wpAny_storeSet_of at_ dt ?_ (fits_of_scanBound R.few))
  have at1 := store_at (es' := es1) (t' := t1) at_ dt
  have same1 := Heap.SameBut.update s.heap a (Obj.putSet es1 t1)
  by_cases full : (!dummy && t1.tooFull) = true
  · rw [if_pos full]
    have c1 := relayAll_perm t1 es1 (SetTable.grown es1.size)
    have c2 := relayAll_fits t1 es1 (SetTable.grown es1.size)
    have c3 := relayAll_ris t1 es1 (SetTable.grown es1.size)
    have c4 := relayAll_led t1 es1 (SetTable.grown es1.size)
    generalize relayAll t1 es1 (SetTable.grown es1.size) = Y at c1 c2 c3 c4 ⊢
    obtain ⟨es3, t3, gave3⟩ := Y
    dsimp only at c1 c2 c3 c4 ⊢
    have R3 : SEs w Ds es3 t3 := R.perm c1 c2 c3 c4
    refine wpAny_bind (quiet _ _ _ (wpAny_bind (wpAny_storeSet_of at1 rfl ?_ (fits_of_scanBound R3.few))))
    exact wpAny_pure (fin _ (same1.trans (Heap.SameBut.update _ a _)) ⟨_, es3, _, t3, store_at (es' := es3) (t' := t3) at1 rfl, xs, rfl, R3⟩)
  · rw [if_neg full]
    exact wpAny_pure (fin _ same1 ⟨_, es1, _, t1, at1, xs, rfl, R⟩)
/-- one more text -/
theorem sset_add {x : Str} {tk : Tok} {K : Bool → Shared → Prop} (R : SSet w s.heap a Ds) (room : Ds.length + 1 < scanBound) (fin : ∀ b h', Heap.SameBut a s.heap h' → SSet w h' a (x :: Ds) → K b { s with heap := h' }) :
    wpAny (model P w) A (setAddHashed a (.str x tk) (hashStr w x)) K E s := by
  obtain ⟨o, es, ep, t, at_, xs, dt, R⟩ := R
  have isx : (strKind P w).is x (.str x tk) = true := strKind_is P w x tk
  have scan : (Value.str x tk).scannable = true := rfl
  have ke : ElemsOf (strKind P w) es.toList := SE.kind R.all
  unfold setAddHashed setAddHashedIn
  refine wpAny_holding (wpAny_bind (wpAny_setState_of at_ dt R.fit ?_))
  dsimp only
  rw [byScan_of scan R.few ke]
  simp only [↓reduceIte]
  unfold setAddByScan
  refine wpAny_bind (wpAny_bind (wpAny_rule (wpAny_bind ?_)))
  have scanned : ∀ {K' : ScanMet → Shared → Prop}, K' (match es.toList.findIdx? (fun e => (strKind P w).is x e.2) with | some j => .found (0 + j) | none => .absent) s → wpAny (model P w) A (setScan a (.str x tk) (hashStr w x) true es) K' E s :=
    fun q => wpAny_setScan_of (knd := strKind P w) isx at_ dt R.fit ke q
  refine scanned ?_
  cases fi : List.findIdx? (fun e => (strKind P w).is x e.2) es.toList with
  | some j =>
    dsimp only
    obtain ⟨lt, pj, _⟩ := List.findIdx?_eq_some_iff_getElem.mp fi
    have old : x ∈ es.toList.map sKey := (SE.mem (P := P) R.all x).2 ⟨es.toList[j], List.getElem_mem lt, pj⟩
    refine wpAny_pure (wpAny_pure (fin _ s.heap (Heap.SameBut.refl a s.heap) ⟨o, es, ep, t, at_, xs, dt, R.all, R.one, fun y => ?_, R.few, R.fit, R.ris, R.led⟩))
    rw [List.mem_cons, ← R.mem y]
    exact ⟨fun z => z.elim (fun e => by rw [e]; exact (R.mem x).2 old) id, .inr⟩
  | none =>
    dsimp only
    have new : x ∉ es.toList.map sKey := fun z => by
      obtain ⟨e, m, q⟩ := (SE.mem (P := P) R.all x).1 z
      have c := List.findIdx?_eq_none_iff.mp fi e m
      rw [q] at c
      cases c
    have quiet : ∀ (b : Bool) (s1 : Shared) (K' : Unit → Shared → Prop), K' () s1 → wpAny (model P w) A (match b with | true => rule "set.scan.the-table-gave-way" | false => pure ()) K' E s1 :=
      fun b s1 K' q => by cases b <;> first | exact wpAny_pure q | exact wpAny_rule q
    have p1 := layNew_perm t es (hashStr w x) (.str x tk)
    have p2 := layNew_fits t es (hashStr w x) (.str x tk)
    have p3 := layNew_ris t es (hashStr w x) (.str x tk) R.ris
    have p4 := layNew_led t es (hashStr w x) (.str x tk)
    have eh : (strKind P w).hash x = hashStr w x := rfl
    generalize layNew t es (hashStr w x) (.str x tk) = Y at p1 p2 p3 p4 ⊢
    obtain ⟨es1, t1, dummy, gave⟩ := Y
    dsimp only at p1 p2 p3 p4 ⊢
    rw [Array.toList_push] at p1
    have pc : es1.toList.Perm ((hashStr w x, Value.str x tk) :: es.toList) := p1.trans (List.perm_append_singleton _ _)
    have pk : (es1.toList.map sKey).Perm (x :: es.toList.map sKey) := pc.map sKey
    have few1 : es.size ≤ Ds.length := by
      have z : (es.toList.map sKey).length ≤ Ds.length := nodup_len R.one fun y hy => (R.mem y).2 hy
      rw [List.length_map, Array.length_toList] at z
      exact z
    have R1 : SEs w (x :: Ds) es1 t1 := {
      all := fun e m => by
        rcases List.mem_cons.mp (pc.mem_iff.mp m) with z | z
        · rw [z]; exact ⟨x, tk, rfl, rfl⟩
        · exact R.all e z
      one := pk.nodup_iff.mpr (List.nodup_cons.mpr ⟨new, R.one⟩)
      mem := fun y => by rw [List.mem_cons, R.mem y, pk.mem_iff, List.mem_cons]
      few := by
        have z := pc.length_eq
        rw [List.length_cons, Array.length_toList, Array.length_toList] at z
        omega
      fit := p2
      ris := p3
      led := by rw [p4]; exact R.led }
    refine wpAny_bind (quiet _ _ _ ?_)
    split
    · refine wpAny_bind ?_
      rw [hashByValue_scannable 8 scan]
      refine wpAny_pure ?_
      split
      · exact sset_lay quiet at_ xs dt R1 fun h' sb r => wpAny_pure (fin _ h' sb r)
      · exact sset_lay quiet at_ xs dt R1.plain fun h' sb r => wpAny_pure (fin _ h' sb r)
    · refine wpAny_bind (wpAny_pure ?_)
      simp only [↓reduceIte]
      exact sset_lay quiet at_ xs dt R1 fun h' sb r => wpAny_pure (fin _ h' sb r)
/-- an empty set -/
abbrev set0 (w : World) : Obj := { cls := .type "set", dict := none, data := .set #[] 0 (.fresh 0 0 (!w.params.followText "set-order")) }
theorem sset_none {h : Heap} (g : h.get? a = some (set0 w)) : SSet w h a [] := by
  refine ⟨_, #[], 0, _, g, ⟨rfl, rfl, rfl⟩, rfl, ⟨fun e m => (by simp at m), by simp, fun x => by simp, by decide, by rfl, List.Pairwise.nil, ?_⟩⟩
  show _ ∨ (!w.params.followText "set-order") = true
  cases w.params.followText "set-order" with
  | true => exact .inl rfl
  | false => exact .inr rfl
/-- the loop that fills it -/
theorem sset_fill {I : Addr} {fp wr : List Addr} {G : Array GenState → Array GenState → Prop} {n : Nat} {Pv : Nat → Value → Prop} {St : Nat → Shared → Prop} {R : Result → Shared → Prop}
    (W : WalksS P w A.in1 I fp wr G n Pv St) (b : Addr) (hb : b ∉ fp) (xs : List Str) (hn : n = xs.length) (room : xs.length + 1 < scanBound) (vals : ∀ i v, Pv i v → ∃ x t, xs[i]? = some x ∧ v = .str x t) :
    ∀ (m i : Nat) (s : Shared) (Ds : List Str), n - i = m → i ≤ n → St i s → Ds.length = i → (∀ x, x ∈ Ds ↔ x ∈ xs.take i) → SSet w s.heap b Ds →
      (∀ s' Ds', Moved (b :: wr) G s s' → (∀ x, x ∈ Ds' ↔ x ∈ xs) → Ds'.length = n → SSet w s'.heap b Ds' → R (.ok (.ret .none)) s') →
      codeAny (model P w) A (.builtin "set.update.loop" ⟨[.ref b, .ref I], []⟩) R s := by
  have bw : b ∉ wr := fun z => hb (W.sub _ z)
  have up : ∀ c ∈ wr, c ∈ b :: wr := fun c z => List.mem_cons_of_mem _ z
  intro m
  induction m with
  | zero =>
    intro i s Ds hm hi st hl hD S fin
    obtain rfl : i = n := by omega
    refine codeAny_builtin F.entry_set_update_loop ?_
    rw [Around.under_plainId F.plain_set_update_loop _]
    show wpAny _ A.in1 (pyNext (.ref I) >>= _) _ _ s
    refine wpAny_bind (W.done s _ _ st fun s' mv => ?_)
    show wpAny _ A.in1 (ret Value.none) _ _ s'
    refine wpAny_pure (fin s' Ds (mv.mono up) (fun x => ?_) hl (S.at fun o e => mv.heap b o bw e))
    rw [hD x, List.take_of_length_le (by omega)]
  | succ m ih =>
    intro i s Ds hm hi st hl hD S fin
    have lt : i < n := by omega
    refine codeAny_builtin F.entry_set_update_loop ?_
    rw [Around.under_plainId F.plain_set_update_loop _]
    show wpAny _ A.in1 (pyNext (.ref I) >>= _) _ _ s
    refine wpAny_bind (W.item i s _ _ lt st fun v s' pv st' mv => ?_)
    obtain ⟨x, t, hx, rfl⟩ := vals i v pv
    have S' : SSet w s'.heap b Ds := S.at fun o e => mv.heap b o bw e
    show wpAny _ A.in1 (holding [Value.str x t] (setAdd b (.str x t)) >>= _) _ _ s'
    refine wpAny_bind (wpAny_holding ?_)
    unfold setAdd
    refine wpAny_holding (wpAny_bind ((strKind P w).pyHash (k := x) (strKind_is P w x t) ?_))
    refine sset_add (s := { s' with toks := s'.toks + 1 }) S' (by omega) fun bb h' sb S2 => ?_
    refine wpAny_pure ⟨plainId_quiet F.plain_set_update_loop _, ih (i + 1) _ (x :: Ds) (by omega) lt (W.frame _ s' _ _ st' (Nat.le_succ _) fun c hc o e => ?_) (by rw [List.length_cons, hl]) (fun y => ?_) S2 fun s'' Ds' mv2 e1 e2 S3 => ?_⟩
    · rw [sb.2 c (fun z : c = b => hb (by rw [← z]; exact hc))]; exact e
    · rw [List.mem_cons, hD y, List.take_add_one, hx, Option.toList_some, List.mem_append, List.mem_singleton]
      exact Or.comm
    · refine fin s'' Ds' (Moved.trans W.gtrans ((mv.mono up).then_heap (Nat.le_succ _) fun c o hc e => ?_) mv2) e1 e2 S3
      rw [sb.2 c (fun z : c = b => hc (by rw [z]; exact List.mem_cons_self))]; exact e
end
end Mi

set_option Elab.async false
set_option linter.all false
set_option maxRecDepth 100000
set_option maxHeartbeats 8000000
/-! Mi: set(xs) and sorted of it. -/
namespace Mi
open PySem PySem.Spec PyProof.Rows L2
section
variable {P : Program} {w : World} {A : Around} {E : Value → Shared → Prop} {s : Shared}
theorem strs_in : ∀ {us : List Value} {xs : List Str}, StrsAre us xs → ∀ (i : Nat) (v : Value), us[i]? = some v → ∃ x t, xs[i]? = some x ∧ v = .str x t
  | _, _, .nil, i, v, h => by simp at h
  | _, _, .cons x t r, 0, v, h => ⟨x, t, rfl, by simpa using h.symm⟩
  | _, _, .cons x t r, i + 1, v, h => by
    obtain ⟨y, u, h1, h2⟩ := strs_in r i v (by simpa using h)
    exact ⟨y, u, by simpa using h1, h2⟩
theorem strs_len : ∀ {us : List Value} {xs : List Str}, StrsAre us xs → us.length = xs.length
  | _, _, .nil => rfl
  | _, _, .cons x t r => by rw [List.length_cons, List.length_cons, strs_len r]
theorem sset_call {l : Addr} {items : Array Value} (xs : List Str) {K : Value → Shared → Prop} (hd : A.handled = none) (isl : s.heap.IsList l items) (are : StrsAre items.toList xs) (room : xs.length + 1 < scanBound)
    (fin : ∀ (h' : Heap) (tk : Nat) (Ds : List Str), SSet w h' s.heap.objs.size Ds → (∀ x, x ∈ Ds ↔ x ∈ xs) → Ds.length = xs.length → (∀ b o, s.heap.get? b = some o → h'.get? b = some o) → K (.ref s.heap.objs.size) { s with heap := h', toks := tk }) :
    wpAny (model P w) A (call (.type "set") [.ref l]) K E s := by
  have size : items.size = xs.length := by
    have z := strs_len are
    rw [Array.length_toList] at z
    exact z
  obtain ⟨c, tl, hmro⟩ := F.called_set.mro
  have made := F.called_set.made
  have sub := F.called_set.sub
  refine wpAny_call (codeAny_of_tree ?_)
  show wpAny _ _ (callAny (.type "set") _) _ _ _
  refine wpAny_pure ⟨Code.quiet_builtin _ (by decide +kernel), codeAny_builtin F.entry_type_call ?_⟩
  rw [Around.under_plain (weight_type_call_type "set" [.ref l] []) rfl]
  have n1 := F.called_set.notType
  have n2 := F.called_set.canCreate
  have n3 := F.typeCall_set_1 (.ref l)
  repeat (any_goals (first | assumption | wp_step))

  refine codeAny_mono (code_set_led1 (.ref l) (E := E) (Q₁ := fun obj s1 => obj = .ref s.heap.objs.size ∧ s1 = { s with heap := s.heap.push (set0 w) }) ⟨rfl, rfl⟩) fun r s1 hr => ?_
  cases r with
  | error e => exact hr
  | ok fl =>
    cases fl with
    | ret obj =>
      obtain ⟨rfl, rfl⟩ := hr
      have here : (s.heap.push (set0 w)).get? s.heap.objs.size = some (set0 w) := Heap.get?_push_size _ rfl
      have typed : Shared.TypeIs { s with heap := s.heap.push (set0 w) } (.ref s.heap.objs.size) "set" := ⟨_, here, rfl⟩
      have i1 := F.called_set.init.lookup
      have i2 := F.called_set.init.bind (.ref s.heap.objs.size)
      repeat (any_goals (first | assumption | wp_step))

      refine codeAny_mono (codeAny_call_builtin (R := wants (fun r s2 => r = .none ∧ ∃ h' tk Ds, s2 = { s with heap := h', toks := tk } ∧ SSet w h' s.heap.objs.size Ds ∧ (∀ x, x ∈ Ds ↔ x ∈ xs) ∧ Ds.length = xs.length ∧
          (∀ b o, s.heap.get? b = some o → h'.get? b = some o)) E) F.called_set.init.plain F.entry_set_init (check_set_init_1 typed ?_)) fun r2 s2 hr2 => ?_
      · obtain ⟨ol, gl, cl, nl, dl⟩ := isl
        obtain ⟨ocls, odict, odata, oslots⟩ := ol
        simp only at cl dl
        subst cl; subst dl
        have gl' : (s.heap.push (set0 w)).get? l = some { cls := .type "list", dict := odict, data := .seq items nl, slots := oslots } := Heap.get?_push_of_some _ gl
        have m1 := F.sub_list_set
        have m2 := F.sub_list_frozenset
        have m3 : (Value.type "list" == Value.type "dict") = false := by decide
        have isl1 : (s.heap.push (set0 w)).IsList l items := ⟨_, gl', rfl, nl, rfl⟩
        unfold Builtin.«set.__init__» noKeywords Builtin.Frozenset.updateFrom
        generalize hPI : pyIter = PI
        wp_walk
        subst hPI

        refine wpAny_pyIter_list isl1 ?_
        refine wpAny_bind (wpAny_runValue ?_)
        have below : l < s.heap.objs.size := Heap.lt_size gl
        have hd3 : A.in1.in1.in1.handled = none := by simp [hd]
        have size1 : (s.heap.push (set0 w)).objs.size = s.heap.objs.size + 1 := Heap.size_push ..
        have neI : l ≠ (s.heap.push (set0 w)).objs.size := by
          rw [size1]; exact Nat.ne_of_lt (Nat.lt_succ_of_lt below)
        have away : s.heap.objs.size ∉ [(s.heap.push (set0 w)).objs.size, l] := by
          rw [size1]
          intro z
          rcases List.mem_cons.mp z with z | z
          · exact absurd z (Nat.ne_of_lt (Nat.lt_succ_self _))
          · exact absurd (List.mem_singleton.mp z) (Nat.ne_of_gt below)
        have vals : ∀ (i : Nat) (v : Value), items[i]? = some v → ∃ x t, xs[i]? = some x ∧ v = .str x t := fun i v hv => strs_in are i v (by rw [Array.getElem?_toList]; exact hv)
        refine sset_fill ((Walks.list hd3 _ l neI items).toS) s.heap.objs.size away xs size room vals (items.size - 0) 0 _ [] (by omega) (Nat.zero_le _)
          ⟨⟨_, Heap.get?_push_size _ rfl, rfl, rfl⟩, (isl1.push _)⟩ rfl (fun x => by simp) (sset_none (Heap.get?_push_of_some _ here)) ?fin2
        case fin2 =>
          intro s' Ds' mv e1 e2 S2
          obtain ⟨h', g2, d2, tk2, os2⟩ := s'
          obtain rfl : g2 = s.gens := mv.gens
          obtain rfl : d2 = s.drawn := mv.drawn
          obtain rfl : os2 = s.os := mv.os
          show wpAny _ _ _ _ _ _
          refine wpAny_pure ?_
          show wpAny _ _ (ret Value.none) _ _ _
          refine wpAny_pure ⟨rfl, h', tk2, Ds', rfl, S2, e1, e2.trans size, fun b o e => ?_⟩
          have lt0 : b < s.heap.objs.size := Heap.lt_size e
          refine mv.heap b o (fun z => ?_) (Heap.get?_push_of_some _ (Heap.get?_push_of_some _ e))
          rcases List.mem_cons.mp z with z | z
          · exact absurd z (Nat.ne_of_lt lt0)
          · have e1 := List.mem_singleton.mp z
            rw [size1] at e1
            exact absurd e1 (Nat.ne_of_lt (Nat.lt_succ_of_lt lt0))

      · cases r2 with
        | error e => exact hr2
        | ok fl2 =>
          cases fl2 with
          | ret r =>
            obtain ⟨rfl, h', tk2, Ds', rfl, S2, e1, e2, keep⟩ := hr2
            repeat (any_goals (first | assumption | wp_step))
            exact fin _ _ _ S2 e1 e2 keep
          | _ => exact hr2.elim
    | _ => exact hr.elim
theorem strs_all : ∀ (l : List Value), (∀ v ∈ l, ∃ x t, v = Value.str x t) → StrsAre l (l.map strOf)
  | [], _ => .nil
  | v :: l, h => by
    obtain ⟨x, t, rfl⟩ := h v List.mem_cons_self
    exact .cons x t (strs_all l fun u hu => h u (List.mem_cons_of_mem _ hu))
theorem sset_sorted {a : Addr} {Ds : List Str} {K : Value → Shared → Prop} (R : SSet w s.heap a Ds) (hd : A.handled = none) (few : Ds.length < 64)
    (fin : ∀ s' p (out : Array Value) (c : Nat) (ys : List Str), (∀ b o, s.heap.get? b = some o → s'.heap.get? b = some o) → s'.gens = s.gens → s'.os = s.os → s.heap.objs.size ≤ p →
      s'.heap.get? p = some (seqObj "list" out c) → StrsAre out.toList ys → sortedS ys = true → ys.Nodup → (∀ x, x ∈ ys ↔ x ∈ Ds) → ys.length < 64 → K (.ref p) s') :
    wpAny (model P w) A (call (.builtin "sorted") [.ref a]) K E s := by
  obtain ⟨o, es, ep, t, at_, xs, dt, R⟩ := R
  have lee : es.size ≤ Ds.length := by
    have z : (es.toList.map sKey).length ≤ Ds.length := nodup_len R.one fun y hy => (R.mem y).2 hy
    rw [List.length_map, Array.length_toList] at z
    exact z
  refine Calls.call_function_entry kind_sorted plain_sorted entry_sorted (args_sorted1 _) ?_
  unfold Builtin.«sorted»
  refine wpAny_bind (m := checkCount "sorted" 1 1 _) (wpAny_pure ?_)
  refine wpAny_bind (collect_set (A := A.in1) hd ⟨o, at_, xs.1, dt⟩ R.fit R.few R.ris R.led fun s1 vs k1 hz g1 o1 pm => ?_)
  have vl : vs.length = es.size := by rw [pm.length_eq, List.length_map, Array.length_toList]
  have hS : StrsAre vs (vs.map strOf) := strs_all vs fun v hv => by
    obtain ⟨e, m, q⟩ := List.mem_map.mp (pm.mem_iff.mp hv)
    obtain ⟨x, t, e1, _⟩ := R.all e m
    exact ⟨x, t, by rw [← q]; exact e1⟩
  have pk : (vs.map strOf).Perm (es.toList.map sKey) := by
    have q := pm.map strOf
    rw [List.map_map] at q
    have ee : es.toList.map (strOf ∘ fun e => e.2) = es.toList.map sKey := List.map_congr_left fun e m => by
      obtain ⟨x, t, e1, _⟩ := R.all e m
      show strOf e.2 = sKey e
      unfold sKey
      rw [e1]; rfl
    rw [ee] at q
    exact q
  refine wpAny_bind (wpAny_newList ?_ (by rw [vl, sizeLine_eq]; omega))
  have atL : (s1.heap.push (seqObj "list" vs.toArray 0)).get? s1.heap.objs.size = some (seqObj "list" vs.toArray 0) := Heap.get?_push_size _ rfl
  refine wpAny_bind (wpAny_holding (wpAny_call_entry slot_list_sort ⟨_, atL, rfl⟩ entry_list_sort
    (list_sort_treeK strKind_oneLt atL hS.keysOf (fun v1 v2 rest e => keyKind_strs (by rw [← e]; exact hS)) (by rw [vl]; omega) fun st' hp hs => ⟨_, rfl, ?_⟩) (args_list_sort _)))
  obtain ⟨ys, g2, g3, g4⟩ := sorted_out_str hS hp hs
  obtain ⟨c, hc⟩ := sortedHeap_at (vs := vs) (out := (arrOf st').map (·.2)) atL
  have pn : ys.Perm (es.toList.map sKey) := g3.trans pk
  refine wpAny_pure ⟨_, rfl, fin _ s1.heap.objs.size _ c ys (fun b u e => ?_) g1 o1 hz hc g2 g4 (pn.nodup_iff.mpr R.one) (fun x => by rw [pn.mem_iff, ← R.mem x]) ?_⟩
  · have q := k1 b u e
    have lt := Heap.lt_size q
    refine Eq.trans (sortedHeap_old (Nat.ne_of_lt lt) (by rw [size_push']; exact Nat.lt_succ_of_lt lt)) ?_
    exact Heap.get?_push_of_some _ q
  · rw [pn.length_eq, List.length_map, Array.length_toList]; omega
end
end Mi

set_option Elab.async false
set_option linter.all false
set_option maxRecDepth 100000
set_option maxHeartbeats 4000000
/-! Mi: t[::-1], t * 0, t * 1 of tuples; set(xs) and sorted of it over the layer. -/
namespace Mi
open PySem PySem.Spec PyProof.Rows L2

/-! ### t * k -/
theorem tuple_mul_same (l : Addr) (items : Array Value) (n : Nat) (dd : Option Addr) (sl : Array (Option Value)) (x : Int) (u : Tok) (low : (decide (x < -(2 ^ 63)) || decide (x ≥ 2 ^ 63)) = false) (same : (items.isEmpty || x == 1) = true) :
    Meets (Builtin.«tuple.__mul__» ⟨[.ref l, .int x u], []⟩) (fun _ R s => s.heap.get? l = some { cls := .type "tuple", dict := dd, data := .seq items n, slots := sl } ∧ R (.ok (.ret (Value.ref l))) s) :=
  .of_wp fun prog w A R s h => by
    obtain ⟨hp, g, d, tk, os⟩ := s
    obtain ⟨at_, h⟩ := h
    have f1 := AutoSeq1.idx_int
    wp_walk using wpAny_loadPart' at_
    repeat (first
      | (refine wpAny_ite_false (decide_eq_false (by rw [low]; exact Bool.false_ne_true)) ?_; wp_walk using wpAny_loadPart' at_)
      | (refine wpAny_ite_true (decide_eq_true same) ?_; wp_walk using wpAny_loadPart' at_))
    exact ⟨_, rfl, h⟩
theorem tuple_mul_none (l : Addr) (items : Array Value) (n : Nat) (dd : Option Addr) (sl : Array (Option Value)) (x : Int) (u : Tok) (low : (decide (x < -(2 ^ 63)) || decide (x ≥ 2 ^ 63)) = false) (other : (items.isEmpty || x == 1) = false) (none_ : (decide (x ≤ 0) || items.isEmpty) = true) :
    Meets (Builtin.«tuple.__mul__» ⟨[.ref l, .int x u], []⟩) (fun _ R s => s.heap.get? l = some { cls := .type "tuple", dict := dd, data := .seq items n, slots := sl } ∧
      R (.ok (.ret (Value.ref s.heap.objs.size))) { s with heap := s.heap.push { cls := Value.type "tuple", data := Data.seq #[] } }) :=
  .of_wp fun prog w A R s h => by
    obtain ⟨hp, g, d, tk, os⟩ := s
    obtain ⟨at_, h⟩ := h
    have f1 := AutoSeq1.idx_int
    wp_walk using wpAny_loadPart' at_
    repeat (first
      | (refine wpAny_ite_false (decide_eq_false (by rw [low]; exact Bool.false_ne_true)) ?_; wp_walk using wpAny_loadPart' at_)
      | (refine wpAny_ite_false (decide_eq_false (by rw [other]; exact Bool.false_ne_true)) ?_; wp_walk using wpAny_loadPart' at_)
      | (refine wpAny_ite_true (decide_eq_true none_) ?_; wp_walk using wpAny_loadPart' at_))
    exact ⟨_, rfl, h⟩
/-- t * k of any k below 2 -/
def rRepS (K : PySem.W.Frag) : R2 := fun x y H Q => ∃ l k xs, x = .ref l ∧ y = .int k ∧ SqT K H l xs ∧ -1000 ≤ k ∧ k ≤ 1000 ∧ ((xs = [] ∨ k = 1) ∧ Q (.ref l) H ∨ xs ≠ [] ∧ k ≤ 0 ∧ ∀ p, H p = none → Q (.ref p) (upd H p (.tup [])))
section
variable {X : Cx}
theorem op_repS : OpR X (binaryOp .Mult) (rRepS X.K) := by
  intro pins s σ H x y v u Q I rx ry h
  obtain ⟨l, k, xs, rfl, rfl, hT, lo, up, h⟩ := h
  cases rx
  obtain ⟨t, rfl⟩ := ry
  obtain ⟨its, r, ⟨⟨cls, dd, data, sl⟩, at_, hc, n, hd⟩, hs⟩ := I.tuple hT
  simp only at hc hd
  subst hc hd
  have len : its.length = xs.length := r.length.symm
  have road : ∀ {Q' : Value → Shared → Prop}, k < 2 ^ 63 → wpAny (model X.prog X.w) X.A (call (.builtin "tuple.__mul__") [.ref l, .int k t]) Q' X.xe s → wpAny (model X.prog X.w) X.A (binaryOp .Mult (.ref l) (.int k t)) Q' X.xe s := fun hk c =>
    wpAny_binaryOp_repeat_ref (T := "tuple") (U := "int") (by decide) ⟨_, at_, rfl⟩ (fun s' => typeIs_int s' k t) noFill_tuple_mul F.fills_int_mul F.slot_int_rmul repeat_tuple F.slot_int_index.lookup
      (call_meets F.slot_int_rmul (typeIs_int s k t) F.entry_int_rmul (F.args_int_rmul_2 _ _) (int_rmul_tuple k t l its.toArray n dd sl) ⟨at_, rfl, ⟨_, at_, rfl⟩, c⟩)
  rcases h with ⟨e, q⟩ | ⟨ne, kl, q⟩
  · have c1 : (its.toArray.isEmpty || k == 1) = true := by
      rcases e with e | e
      · rw [e] at len
        rw [List.eq_nil_of_length_eq_zero len]; rfl
      · rw [e]; simp
    have c0 : (decide (k < -(2 ^ 63)) || decide (k ≥ 2 ^ 63)) = false := by
      rw [decide_eq_false (by omega), decide_eq_false (by omega)]; rfl
    exact road (by omega) (call_meets F.slot_tuple_mul ⟨_, at_, rfl⟩ F.entry_tuple_mul (F.args_tuple_mul_2 _ _) (tuple_mul_same l its.toArray n dd sl k t c0 c1) ⟨at_, ⟨.ref l, H, I, rfl, q⟩⟩)
  · have c0 : (decide (k < -(2 ^ 63)) || decide (k ≥ 2 ^ 63)) = false := by
      rw [decide_eq_false (by omega), decide_eq_false (by omega)]; rfl
    have nn : its ≠ [] := fun e => ne (by
      rw [e] at len
      exact List.eq_nil_of_length_eq_zero len.symm)
    have ie : its.toArray.isEmpty = false := by
      cases its with
      | nil => exact absurd rfl nn
      | cons a b => rfl
    have c1 : (its.toArray.isEmpty || k == 1) = false := by
      rw [ie, Bool.false_or]
      exact beq_eq_false_iff_ne.mpr (by omega)
    have c2 : (decide (k ≤ 0) || its.toArray.isEmpty) = true := by
      rw [decide_eq_true kl]; rfl
    refine road (by omega) (call_meets F.slot_tuple_mul ⟨_, at_, rfl⟩ F.entry_tuple_mul (F.args_tuple_mul_2 _ _) (tuple_mul_none l its.toArray n dd sl k t c0 c1 c2) ⟨at_, ?_⟩)
    exact ⟨.ref s.heap.objs.size, _, I.laid (t' := s.toks) (o := .tup []) (fun b ob q => Heap.get?_push_of_some _ q) (Nat.le_refl _) ⟨by simp, [], .nil, IsTup.new _ _⟩, rfl, q _ (I.hok.fresh (Nat.le_refl _))⟩

/-! ### t[::-1] -/
theorem rev_applied {w : World} {prog : Program} {A : Around} {E : Value → Shared → Prop} {s : Shared} {sl : Addr} {n : Nat} {t : Tok} {Q : Int × Int × Nat → Shared → Prop} (hs : s.heap.IsSliceOf sl .none .none (.int (-1) t)) (h : Q ((n : Int) - 1, -1, n) s) :
    wpAny (model prog w) A (Builtin.Slice.sliceApplied (.ref sl) (pure (n : Int))) Q E s := by
  obtain ⟨os, at_, hc, hd⟩ := id hs
  unfold Builtin.Slice.sliceApplied Builtin.Slice.sliceFields
  refine wpAny_bind (wpAny_bind (wpAny_field at_ hd (x := .none) rfl (wpAny_bind (wpAny_field at_ hd (x := .none) rfl (wpAny_bind (wpAny_field at_ hd (x := .int (-1) t) rfl (wpAny_pure ?_)))))))
  refine wpAny_bind (HT.slicePart_ (.int (-1) t) ?_)
  show wpAny _ _ (if ((-1 : Int) == 0) = true then _ else _) _ _ s
  rw [if_neg (by decide)]
  refine wpAny_bind (HT.slicePart_ .none (wpAny_bind (HT.slicePart_ .none (wpAny_bind (wpAny_pure ?_)))))
  show wpAny _ _ (pure ((n : Int) - 1, (-1 : Int), Builtin.Slice.slicePlaces ((n : Int) - 1) (-1) (-1))) _ _ s
  have e : Builtin.Slice.slicePlaces ((n : Int) - 1) (-1) (-1) = n := by
    unfold Builtin.Slice.slicePlaces
    rw [if_neg (by omega)]
    split
    · rw [show -(-1 : Int) = 1 from rfl, Int.ediv_one]
      omega
    · omega
  rw [e]
  exact wpAny_pure h
theorem filterMap_of {α β : Type} {f : α → Option β} {g : α → β} : ∀ {l : List α}, (∀ k ∈ l, f k = some (g k)) → l.filterMap f = l.map g
  | [], _ => rfl
  | k :: l, h => by rw [List.filterMap_cons_some (h k List.mem_cons_self), filterMap_of fun j m => h j (List.mem_cons_of_mem _ m), List.map_cons]
theorem rev_pick (xs : Array Value) : ((List.range xs.size).filterMap fun (k : Nat) => xs[(((xs.size : Nat) : Int) - 1 + (k : Int) * -1).toNat]?).toArray = xs.toList.reverse.toArray := by
  congr 1
  have e : ∀ k ∈ List.range xs.size, xs[(((xs.size : Nat) : Int) - 1 + (k : Int) * -1).toNat]? = some ((xs.toList.reverse)[k]!) := fun k hk => by
    have lt : k < xs.size := List.mem_range.mp hk
    have e1 : (((xs.size : Nat) : Int) - 1 + (k : Int) * -1).toNat = xs.size - 1 - k := by omega
    have e2 : k < xs.toList.reverse.length := by simpa using lt
    rw [e1, getElem!_pos xs.toList.reverse k e2, List.getElem_reverse, ← Array.getElem?_toList]
    rw [List.getElem?_eq_getElem (by simp; omega)]
    simp
  have e3 : List.filterMap (fun (k : Nat) => xs[(((xs.size : Nat) : Int) - 1 + (k : Int) * -1).toNat]?) (List.range xs.size) = (List.range xs.size).map fun k => (xs.toList.reverse)[k]! := by
    exact filterMap_of e
  rw [e3]
  apply List.ext_getElem
  · simp
  · intro i h1 h2
    rw [List.getElem_map, List.getElem_range, getElem!_pos xs.toList.reverse i h2]
theorem getItem_tuple_rev {w : World} {prog : Program} {A : Around} {E : Value → Shared → Prop} {s : Shared} {t sl : Addr} {items : Array Value} {tk : Tok} {Q : Value → Shared → Prop} (ht : IsTup s.heap t items) (hs : s.heap.IsSliceOf sl .none .none (.int (-1) tk)) (fits : items.size ≤ sizeLine)
    (h : Q (.ref s.heap.objs.size) { s with heap := s.heap.push { cls := .type "tuple", data := .seq items.toList.reverse.toArray } }) : wpAny (model prog w) A (getItem (.ref t) (.ref sl)) Q E s := by
  obtain ⟨os, at_, hc, hd⟩ := id hs
  have hT : s.TypeIs (.ref sl) "slice" := ⟨os, at_, hc⟩
  unfold getItem
  try with_reducible refine wpAny_holding ?_
  first | refine wpAny_bind (wpAny_pure ?_) | skip
  refine wpAny_bind (wpAny_sequenceKey ht.typeIs (by decide) ?_)
  refine wpAny_bind (wpAny_callSpecial?_slot (name := Str.ofString "__getitem__") ht.typeIs PyProof.Rows.slot_tuple_getitem (wpAny_call_entry PyProof.Rows.slot_tuple_getitem ht.typeIs entry_tuple_getitem ?_ (args_tuple_getitem _ _)))
  show wpAny _ _ (Builtin.Tuple.tupleItemsOf (.ref t) >>= _) _ _ s
  refine wpAny_bind (PyProof.Rows.tupleItemsOf_ ht (wpAny_bind (wpAny_typeOf hT ?_)))
  rw [if_pos (by decide)]
  refine wpAny_bind (rev_applied hs ?_)
  have no : ¬ (((((items.size : Nat) : Int) - 1) == 0 && (-1 : Int) == 1 && items.size == items.size) = true) := by
    rw [show ((-1 : Int) == 1) = false from rfl, Bool.and_false, Bool.false_and]
    exact Bool.false_ne_true
  show wpAny _ _ (if ((((items.size : Nat) : Int) - 1) == 0 && (-1 : Int) == 1 && items.size == items.size) = true then _ else _) _ _ s
  rw [if_neg no, rev_pick]
  have sz : sizeOk (.seq items.toList.reverse.toArray) := by
    show items.toList.reverse.toArray.size ≤ sizeLine
    simpa using fits
  first
    | exact wpAny_bind (m := Builtin.Tuple.tupleExact _) (wpAny_newObj_type (wpAny_pure ⟨_, rfl, wpAny_pure h⟩) sz)
    | exact wpAny_bind (m := Builtin.Tuple.tupleExact _) (wpAny_newObj_type (wpAny_bind (wpAny_pure (wpAny_pure ⟨_, rfl, wpAny_pure h⟩))) sz)
    | exact wpAny_bind (wpAny_bind (m := Builtin.Tuple.tupleExact _) (wpAny_newObj_type (wpAny_pure (wpAny_pure ⟨_, rfl, wpAny_pure h⟩)) sz))
    | exact wpAny_bind (wpAny_bind (m := Builtin.Tuple.tupleExact _) (wpAny_newObj_type (wpAny_pure ⟨_, rfl, wpAny_pure h⟩) sz))
/-- x[::-1] of a list, of a tuple -/
def tRevA (K : PySem.W.Frag) (te : TE) : TE := fun σ H Q => te σ H fun x H1 => ∃ a xs, x = .ref a ∧ ((SqL K H1 a xs ∧ ∀ p, H1 p = none → Q (.ref p) (upd H1 p (.lst xs.reverse))) ∨ (SqT K H1 a xs ∧ ∀ p, H1 p = none → Q (.ref p) (upd H1 p (.tup xs.reverse))))
theorem pe_revA {e : Expr} {te : TE} {k : Nat} {p1 p2 p3 pos : Pos} (he : PE X e te) : PE X (.Subscript e (.Slice none none (some (.UnaryOp .USub (.Constant (.int 1) k p1) p2)) p3) pos) (tRevA X.K te) := by
  refine ⟨fun pins s σ H Q I h => ?_⟩
  refine Subscript_ (thn (he.run pins s σ H _ I h) fun v s1 ⟨x, H1, I1, r1, a, xs, ex, q⟩ => ?_)
  subst ex
  cases r1
  have step : PO X (some (.UnaryOp .USub (.Constant (.int 1) k p1) p2)) (tPart (tUn (rU fun i => .int (-i)) (tC (.int 1)))) := po_some (pe_un un_neg pe_int)
  refine wpAny_Slice (thn (po_none.run pins s1 σ H1 (fun o H2 => o = none ∧ H2 = H1) I1 ⟨rfl, rfl⟩) fun vl s2 ⟨l, H2, I2, pl, el, e2⟩ => ?_)
  subst el e2
  refine thn (po_none.run pins s2 σ H2 (fun o H3 => o = none ∧ H3 = H2) I2 ⟨rfl, rfl⟩) fun vu s3 ⟨u, H3, I3, pu, eu, e3⟩ => ?_
  subst eu e3
  refine thn (step.run pins s3 σ H3 (fun o H4 => o = some (-1) ∧ H4 = H3) I3 ⟨1, rfl, -1, rfl, rfl, rfl⟩) fun vs s4 ⟨o, H4, I4, ps, eo, e4⟩ => ?_
  subst eo e4
  have I5 : Inv X pins σ H4 { s4 with heap := s4.heap.push { cls := .type "slice", data := .fields #[vl, vu, vs] } } := I4.kept (t' := s4.toks) fun b ob q => Heap.get?_push_of_some _ q
  show wpAny (model X.prog X.w) X.A (subscriptTail e (.Slice none none (some (.UnaryOp .USub (.Constant (.int 1) k p1) p2)) p3) (.ref a) (.ref s4.heap.objs.size)) (EP X pins σ Q) X.xe { s4 with heap := s4.heap.push { cls := .type "slice", data := .fields #[vl, vu, vs] } }
  rcases q with ⟨hx, q⟩ | ⟨hx, q⟩
  · obtain ⟨its, r, ht, hz⟩ := I5.list hx
    have len := r.length
    refine tail_any (ops := [.ref a, .ref s4.heap.objs.size]) ht.isList.typeIs (PySem.slot_list_getitem.lookup) ?_ (by with_unfolding_all rfl)
    refine wpAny_getItem_list_slice ht.isList (Heap.IsSliceOf.new _ vl vu vs) pl pu ps (by decide) ?_ (by rw [List.size_toArray]; omega)
    rw [PySem.W.krv_pick]
    exact ⟨.ref _, _, I5.laid (t' := s4.toks) (o := .lst xs.reverse) (fun b ob q => Heap.get?_push_of_some _ q) (Nat.le_refl _) ⟨by rw [List.length_reverse]; exact hz, _, 0, r.reverse, Heap.get?_push_size _ rfl⟩, rfl, q _ (I5.hok.fresh (Nat.le_refl _))⟩
  · obtain ⟨its, r, ht, hz⟩ := I5.tuple hx
    have len := r.length
    cases pl
    cases pu
    cases ps with
    | int i tk =>
    refine tail_any (ops := [.ref a, .ref s4.heap.objs.size]) ht.typeIs (PyProof.Rows.slot_tuple_getitem.lookup) ?_ (by with_unfolding_all rfl)
    refine getItem_tuple_rev ht (Heap.IsSliceOf.new _ _ _ _) (by rw [List.size_toArray]; omega) ?_
    exact ⟨.ref _, _, I5.laid (t' := s4.toks) (o := .tup xs.reverse) (fun b ob q => Heap.get?_push_of_some _ q) (Nat.le_refl _) ⟨by rw [List.length_reverse]; exact hz, _, r.reverse, IsTup.new _ _⟩, rfl, q _ (I5.hok.fresh (Nat.le_refl _))⟩

/-! ### set(xs), sorted of it -/
def SSetO (w : World) (a : Addr) (Ds : List Str) : HO := .ext fun h => SSet w h a Ds
theorem ssetO_new {w : World} {P : Program} {H : Hp} {h : Heap} {a : Addr} {Ds : List Str} (R : SSet w h a Ds) : ObjOk P w H h a (SSetO w a Ds) := by
  have ⟨o, _, _, _, g, _⟩ := R
  exact ⟨R, ⟨o, g⟩, fun h1 h2 p k => SSet.at p k⟩
def rSetS (K : PySem.W.Frag) (w : World) : List V → Hp → VK → Prop := fun xs H Q => ∃ (a : Addr) (ys : List Str), xs = [V.ref a] ∧ SqL K H a (ys.map V.str) ∧ ys.length < 1000 ∧
  ∀ p Ds, (∀ x, x ∈ Ds ↔ x ∈ ys) → Ds.length = ys.length → H p = none → Q (.ref p) (upd H p (SSetO w p Ds))
theorem cr_setS (hc : X.calm = true) : CallR X (.type "set") (rSetS X.K X.w) := by
  intro pins s σ H xs us Q I r h
  obtain ⟨a, ys, rfl, hs, few, q⟩ := h
  obtain ⟨its, rv, hl, _⟩ := I.list hs
  rw [Vals.ref1 r]
  refine sset_call (w := X.w) ys (I.ok.hd hc) hl.isList (by simpa using rv.strs) (by unfold scanBound; omega) fun h' tk Ds R e1 e2 keep => ?_
  exact ⟨.ref _, _, I.laid (t' := tk) keep (Nat.le_refl _) (ssetO_new R), rfl, q _ Ds e1 e2 (I.hok.fresh (Nat.le_refl _))⟩
def rSortS (w : World) : List V → Hp → VK → Prop := fun xs H Q => ∃ (a : Addr) (Ds : List Str), xs = [V.ref a] ∧ H a = some (SSetO w a Ds) ∧ Ds.length < 64 ∧
  ∀ (ys : List Str) p, sortedS ys = true → ys.Nodup → (∀ x, x ∈ ys ↔ x ∈ Ds) → H p = none → Q (.ref p) (upd H p (.lst (ys.map V.str)))
theorem cr_sortSet (hc : X.calm = true) : CallR X (.builtin "sorted") (rSortS X.w) := by
  intro pins s σ H xs us Q I r h
  obtain ⟨a, Ds, rfl, ha, few, q⟩ := h
  have R : SSet X.w s.heap a Ds := (I.hok a _ ha).1
  rw [Vals.ref1 r]
  refine sset_sorted (P := X.prog) R (I.ok.hd hc) few fun s' p out c ys keep g o le at_ are so nd mem lt => ?_
  have fresh : H p = none := I.hok.fresh le
  have J : Inv X pins σ (upd H p (.lst (ys.map V.str))) { s with heap := s'.heap, gens := s'.gens, drawn := s'.drawn, toks := s'.toks } :=
    I.call (ch := []) (Un.laid keep le fresh) (I.hok.laid keep le ⟨by rw [List.length_map, sizeLine_eq]; omega, out.toList, c, vals_of_strs are, by simpa using at_⟩) (by rw [g]; exact I.bare) (fun _ z => nomatch z)
  have e : s' = { s with heap := s'.heap, gens := s'.gens, drawn := s'.drawn, toks := s'.toks } := by
    cases s'
    cases s
    cases o
    rfl
  rw [e]
  exact ⟨.ref p, _, J, rfl, q ys p so nd mem fresh⟩
end
end Mi

set_option Elab.async false
set_option linter.all false
set_option maxRecDepth 100000
set_option maxHeartbeats 4000000
/-! Mi: list(zip(a, b)) of two lists or two tuples of one length. -/
namespace Mi
open PySem PySem.Spec PyProof.Rows L2 RZ

/-- lists, or tuples -/
inductive Sk where
  | l | t
def Sk.it : Sk → Heap → Addr → Addr → Nat → Prop
  | .l => fun h i a k => h.IsListIter i a k
  | .t => fun h i a k => h.IsTupleIter i a k
def Sk.sq : Sk → Heap → Addr → Array Value → Prop
  | .l => fun h a xs => h.IsList a xs
  | .t => fun h a xs => h.IsTuple a xs
theorem Sk.it_at {kd : Sk} {h h' : Heap} {i a : Addr} {k : Nat} (x : kd.it h i a k) (e : ∀ o, h.get? i = some o → h'.get? i = some o) : kd.it h' i a k := by
  cases kd with
  | l => exact Heap.IsListIter.at x e
  | t => obtain ⟨o, g, r⟩ := x; exact ⟨o, e o g, r⟩
theorem Sk.sq_at {kd : Sk} {h h' : Heap} {a : Addr} {xs : Array Value} (x : kd.sq h a xs) (e : ∀ o, h.get? a = some o → h'.get? a = some o) : kd.sq h' a xs := by
  cases kd with
  | l => exact Heap.IsList.at x e
  | t => obtain ⟨o, g, r⟩ := x; exact ⟨o, e o g, r⟩
theorem Sk.it_lt {kd : Sk} {h : Heap} {i a : Addr} {k : Nat} (x : kd.it h i a k) : ∃ o, h.get? i = some o := by
  cases kd with
  | l => obtain ⟨o, g, _⟩ := x; exact ⟨o, g⟩
  | t => obtain ⟨o, g, _⟩ := x; exact ⟨o, g⟩
theorem Sk.sq_lt {kd : Sk} {h : Heap} {a : Addr} {xs : Array Value} (x : kd.sq h a xs) : ∃ o, h.get? a = some o := by
  cases kd with
  | l => obtain ⟨o, g, _⟩ := x; exact ⟨o, g⟩
  | t => obtain ⟨o, g, _⟩ := x; exact ⟨o, g⟩
/-- a zip that has handed out the tuple at T first -/
abbrev ZipOn (h : Heap) (z TI TO T : Addr) (f : Bool) : Prop :=
  h.get? z = some { cls := .type "zip", dict := none, data := .fields #[rawInt T, .bool f, .bool false, .ref TI, .ref TO], slots := #[] }
structure ZS (kd : Sk) (S : Addr) (h : Heap) (z TI TO i1 i2 a b : Addr) (k : Nat) : Prop where
  zip : IsZip h z TI TO .none ∨ ∃ T f o, ZipOn h z TI TO T f ∧ h.get? T = some o ∧ T ≠ z ∧ T ≠ TO ∧ T ≠ i1 ∧ T ≠ i2 ∧ T ≠ S
  ti : IsPair h TI (.ref i1) (.ref i2)
  out : ∃ u v, IsPair h TO u v
  one : kd.it h i1 a k
  two : kd.it h i2 b k
section
variable {prog : Program} {w : World} {A : Around} {E : Value → Shared → Prop} {s : Shared} {kd : Sk}
theorem sk_item {it a : Addr} {i : Nat} {xs : Array Value} {x : Value} {Q : Value → Shared → Prop} (hi : kd.it s.heap it a i) (hs : kd.sq s.heap a xs) (hx : xs[i]? = some x)
    (hQ : ∀ h', kd.it h' it a (i + 1) → Heap.SameBut it s.heap h' → Q x { s with heap := h' }) : wpAny (model prog w) A (Builtin.SmallTypes.nextOf (.ref it)) Q E s := by
  cases kd with
  | l => exact wpAny_nextOf_list_item hi hs hx hQ
  | t => exact nextOf_tuple_item hi hs hx hQ
theorem sk_end {it a : Addr} {i : Nat} {xs : Array Value} {Q : Value → Shared → Prop} (hh : A.handled = none) (hi : kd.it s.heap it a i) (hs : kd.sq s.heap a xs) (hx : xs[i]? = none)
    (hE : ∀ h' e, Heap.ExtBut it s.heap h' → (∃ o, h'.get? e = some o ∧ o.cls = .type "StopIteration") → E (.ref e) { s with heap := h' }) : wpAny (model prog w) A (Builtin.SmallTypes.nextOf (.ref it)) Q E s := by
  cases kd with
  | l => exact wpAny_nextOf_list_end hh hi hs hx hE
  | t => exact nextOf_tuple_end hh hi hs hx hE
/-- the road to zip.__next__ -/
theorem zip_road {z : Addr} {o : Obj} {Q : Option Value → Shared → Prop} (hz : s.heap.get? z = some o) (hc : o.cls = .type "zip")
    (body : wpAny (model prog w) A.in1 (Builtin.«zip.__next__» ⟨[.ref z], []⟩) (fun fin s' => ∃ v, fin = .done (.ret v) ∧ Q (some v) s') (fun e s' => ∃ ob, s'.heap.get? (match e with | .ref c => c | _ => 0) = some ob ∧ ob.cls = .type "StopIteration" ∧ (∃ c, e = .ref c) ∧ Q none s') s) :
    wpAny (model prog w) A (pyNext (.ref z)) Q E s := by
  have hT : s.TypeIs (.ref z) "zip" := ⟨_, hz, hc⟩
  unfold pyNext
  refine wpAny_bind (wpAny_attempt (wpAny_callSpecial?_slot (name := Str.ofString "__next__") hT PySem.F.slot_zip_next (wpAny_call_entry PySem.F.slot_zip_next hT PySem.F.entry_zip_next ?_ (PySem.F.args_zip_next_1 _))))
  refine wpAny_mono body (fun fin s' ⟨v, e, q⟩ => ⟨v, e, wpAny_pure q⟩) fun e s' ⟨ob, g, c, ⟨a, ea⟩, q⟩ => ?_
  subst ea
  refine wpAny_bind (wpAny_isInstance (T := "StopIteration") (b := true) ⟨ob, g, c⟩ isSubtype_stop ?_)
  exact wpAny_pure q
/-- the owned tuple is not free: a new one is made -/
theorem zip_on_item {z TI TO T i1 i2 a b : Addr} {k : Nat} {f : Bool} {o : Obj} {xs ys : Array Value} {x y : Value} {Q : Value → Shared → Prop} (hz : ZipOn s.heap z TI TO T f) (hT : s.heap.get? T = some o) (hTI : IsPair s.heap TI (.ref i1) (.ref i2)) (D : ZipApart z TI TO i1 i2 a b)
    (o1 : kd.it s.heap i1 a k) (o2 : kd.it s.heap i2 b k) (sa : kd.sq s.heap a xs) (sb : kd.sq s.heap b ys) (hx : xs[k]? = some x) (hy : ys[k]? = some y)
    (hQ : ∀ h', ZipOn h' z TI TO T true → kd.it h' i1 a (k + 1) → kd.it h' i2 b (k + 1) → IsPair h' s.heap.objs.size x y → h'.objs.size = s.heap.objs.size + 1 → (∀ c o, c ≠ z → c ≠ i1 → c ≠ i2 → s.heap.get? c = some o → h'.get? c = some o) → Q (.ref s.heap.objs.size) { s with heap := h' }) :
    wpAny (model prog w) A (Builtin.«zip.__next__» ⟨[.ref z], []⟩) (fun fin s' => ∃ v, fin = .done (.ret v) ∧ Q v s') E s := by
  show wpAny _ _ (field (.ref z) 2 >>= _) _ _ _
  refine wpAny_bind (wpAny_field hz rfl (x := .bool false) rfl ?_)
  show wpAny _ _ (field (.ref z) 3 >>= _) _ _ _
  refine wpAny_bind (wpAny_field hz rfl (x := .ref TI) rfl ?_)
  refine wpAny_bind (wpAny_seqItems hTI rfl ?_)
  show wpAny _ _ (Builtin.SmallTypes.ownedTupleIsFree (.ref z) >>= _) _ _ _
  refine wpAny_bind ?_
  unfold Builtin.SmallTypes.ownedTupleIsFree
  refine wpAny_bind (wpAny_field hz rfl (x := rawInt T) rfl ?_)
  show wpAny _ _ (loadIfAlive (T : Int).toNat >>= _) _ _ _
  rw [Int.toNat_natCast]
  refine wpAny_bind (PySem.W.kdx_alive hT ?_)
  rw [if_neg (show ¬ ((some o).isNone = true) from Bool.false_ne_true)]
  refine wpAny_bind (wpAny_field hz rfl (x := .bool f) rfl ?_)
  have both : ∀ {K : Bool → Shared → Prop}, (∀ h', ZipOn h' z TI TO T true → Heap.SameBut z s.heap h' → K false { s with heap := h' }) → wpAny (model prog w) A (if (Value.bool f != Value.bool true) = true then (setField (.ref z) 1 (.bool true) >>= fun _ => pure false) else pure false) K E s := fun {K} k => by
    cases f with
    | true => exact wpAny_pure (k s.heap hz (Heap.SameBut.refl z s.heap))
    | false => exact wpAny_bind (wpAny_setField_rec hz (by simp) fun h' hz' sb => wpAny_pure (k h' hz' sb))
  refine both fun h1 hz1 sb1 => ?_
  dsimp only
  rw [if_neg Bool.false_ne_true]
  simp only [List.forIn_toArray, List.forIn_cons, List.forIn_nil]
  have a1 : ∀ c o, c ≠ z → s.heap.get? c = some o → h1.get? c = some o := fun c o hc e => (sb1.2 c hc).trans e
  refine wpAny_bind (wpAny_bind (wpAny_bind (wpAny_holding ?_)))
  show wpAny _ _ (Builtin.SmallTypes.nextOf (.ref i1) >>= _) _ _ _
  refine wpAny_bind (sk_item (Sk.it_at o1 fun o e => a1 _ o D.i1z e) (Sk.sq_at sa fun o e => a1 _ o D.l1z e) hx fun h2 p2 sb2 => wpAny_pure ?_)
  have a2 : ∀ c o, c ≠ z → c ≠ i1 → s.heap.get? c = some o → h2.get? c = some o := fun c o hc hc1 e => (sb2.2 c hc1).trans (a1 c o hc e)
  dsimp only
  refine wpAny_pure ?_
  dsimp only
  refine wpAny_bind (wpAny_bind (wpAny_holding ?_))
  show wpAny _ _ (Builtin.SmallTypes.nextOf (.ref i2) >>= _) _ _ _
  refine wpAny_bind (sk_item (Sk.it_at o2 fun o e => a2 _ o D.i2z D.i12.symm e) (Sk.sq_at sb fun o e => a2 _ o D.l2z D.l2i1 e) hy fun h3 p3 sb3 => wpAny_pure ?_)
  have a3 : ∀ c o, c ≠ z → c ≠ i1 → c ≠ i2 → s.heap.get? c = some o → h3.get? c = some o := fun c o hc hc1 hc2 e => (sb3.2 c hc2).trans (a2 c o hc hc1 e)
  dsimp only
  refine wpAny_pure ?_
  dsimp only
  refine wpAny_pure ?_
  dsimp only
  have size3 : h3.objs.size = s.heap.objs.size := by rw [sb3.1, sb2.1, sb1.1]
  have hz3 : ZipOn h3 z TI TO T true := (sb3.2 z D.i2z.symm).trans ((sb2.2 z D.i1z.symm).trans hz1)
  have p23 : kd.it h3 i1 a (k + 1) := Sk.it_at p2 fun o e => (sb3.2 i1 D.i12).trans e
  refine wpAny_bind (wpAny_newTuple ?_ (by rw [sizeLine_eq]; simp))
  have up : ∀ c o, h3.get? c = some o → (h3.push { cls := .type "tuple", data := .seq ([x, y] : List Value).toArray }).get? c = some o := fun c o e => Heap.get?_push_of_some _ e
  refine wpAny_pure ⟨_, rfl, ?_⟩
  show Q (.ref h3.objs.size) _
  rw [size3]
  refine hQ _ (up _ _ hz3) (Sk.it_at p23 fun o e => up _ o e) (Sk.it_at p3 fun o e => up _ o e) ?_ ?_ fun c o c1 c2 c3 e => up c o (a3 c o c1 c2 c3 e)
  · rw [← size3]; exact Heap.get?_push_size _ rfl
  · rw [Heap.size_push, size3]
theorem zip_on_end {z TI TO T i1 i2 a b : Addr} {k : Nat} {f : Bool} {o : Obj} {xs : Array Value} {Q : PySem.Fin → Shared → Prop} (hh : A.handled = none) (hz : ZipOn s.heap z TI TO T f) (hT : s.heap.get? T = some o) (hTI : IsPair s.heap TI (.ref i1) (.ref i2)) (D : ZipApart z TI TO i1 i2 a b)
    (o1 : kd.it s.heap i1 a k) (sa : kd.sq s.heap a xs) (hx : xs[k]? = none)
    (hE : ∀ h' e, (∀ c o, c ≠ z → c ≠ i1 → s.heap.get? c = some o → h'.get? c = some o) → (∃ o, h'.get? e = some o ∧ o.cls = .type "StopIteration") → E (.ref e) { s with heap := h' }) :
    wpAny (model prog w) A (Builtin.«zip.__next__» ⟨[.ref z], []⟩) Q E s := by
  show wpAny _ _ (field (.ref z) 2 >>= _) _ _ _
  refine wpAny_bind (wpAny_field hz rfl (x := .bool false) rfl ?_)
  show wpAny _ _ (field (.ref z) 3 >>= _) _ _ _
  refine wpAny_bind (wpAny_field hz rfl (x := .ref TI) rfl ?_)
  refine wpAny_bind (wpAny_seqItems hTI rfl ?_)
  show wpAny _ _ (Builtin.SmallTypes.ownedTupleIsFree (.ref z) >>= _) _ _ _
  refine wpAny_bind ?_
  unfold Builtin.SmallTypes.ownedTupleIsFree
  refine wpAny_bind (wpAny_field hz rfl (x := rawInt T) rfl ?_)
  show wpAny _ _ (loadIfAlive (T : Int).toNat >>= _) _ _ _
  rw [Int.toNat_natCast]
  refine wpAny_bind (PySem.W.kdx_alive hT ?_)
  rw [if_neg (show ¬ ((some o).isNone = true) from Bool.false_ne_true)]
  refine wpAny_bind (wpAny_field hz rfl (x := .bool f) rfl ?_)
  have both : ∀ {K : Bool → Shared → Prop}, (∀ h', ZipOn h' z TI TO T true → Heap.SameBut z s.heap h' → K false { s with heap := h' }) → wpAny (model prog w) A (if (Value.bool f != Value.bool true) = true then (setField (.ref z) 1 (.bool true) >>= fun _ => pure false) else pure false) K E s := fun {K} k => by
    cases f with
    | true => exact wpAny_pure (k s.heap hz (Heap.SameBut.refl z s.heap))
    | false => exact wpAny_bind (wpAny_setField_rec hz (by simp) fun h' hz' sb => wpAny_pure (k h' hz' sb))
  refine both fun h1 hz1 sb1 => ?_
  dsimp only
  rw [if_neg Bool.false_ne_true]
  simp only [List.forIn_toArray, List.forIn_cons, List.forIn_nil]
  have a1 : ∀ c o, c ≠ z → s.heap.get? c = some o → h1.get? c = some o := fun c o hc e => (sb1.2 c hc).trans e
  refine wpAny_bind (wpAny_bind (wpAny_bind (wpAny_holding ?_)))
  show wpAny _ _ (Builtin.SmallTypes.nextOf (.ref i1) >>= _) _ _ _
  exact wpAny_bind (sk_end hh (Sk.it_at o1 fun o e => a1 _ o D.i1z e) (Sk.sq_at sa fun o e => a1 _ o D.l1z e) hx fun h2 e ex he => hE h2 e (fun c o c1 c2 q => ex c o c2 (a1 c o c1 q)) he)
/-- the next pair -/
theorem zs_item {S z TI TO i1 i2 a b : Addr} {k : Nat} {xs ys : Array Value} {x y : Value} {Q : Option Value → Shared → Prop} (D : ZipApart z TI TO i1 i2 a b) (Z : ZS kd S s.heap z TI TO i1 i2 a b k)
    (sa : kd.sq s.heap a xs) (sb : kd.sq s.heap b ys) (hx : xs[k]? = some x) (hy : ys[k]? = some y)
    (hS : S < s.heap.objs.size) (hQ : ∀ h', ZS kd S h' z TI TO i1 i2 a b (k + 1) → IsPair h' s.heap.objs.size x y → h'.objs.size = s.heap.objs.size + 1 → (∀ c o, c ≠ z → c ≠ TO → c ≠ i1 → c ≠ i2 → s.heap.get? c = some o → h'.get? c = some o) → Q (some (.ref s.heap.objs.size)) { s with heap := h' }) :
    wpAny (model prog w) A (pyNext (.ref z)) Q E s := by
  obtain ⟨zip, ti, ⟨u, v, out⟩, one, two⟩ := Z
  have lz : z < s.heap.objs.size := by rcases zip with q | ⟨T, f, o, q, _⟩ <;> exact Heap.lt_size q
  have lo : TO < s.heap.objs.size := Heap.lt_size out
  obtain ⟨w1, g1⟩ := Sk.it_lt one
  obtain ⟨w2, g2⟩ := Sk.it_lt two
  rcases zip with zip | ⟨T, f, o, zip, gT, t1, t2, t3, t4, t5⟩
  · have fin : ∀ h', IsZip h' z TI TO (rawInt s.heap.objs.size) → IsPair h' TO x y → kd.it h' i1 a (k + 1) → kd.it h' i2 b (k + 1) → IsPair h' s.heap.objs.size x y → h'.objs.size = s.heap.objs.size + 1 →
        (∀ c o, c ≠ z → c ≠ TO → c ≠ i1 → c ≠ i2 → s.heap.get? c = some o → h'.get? c = some o) → Q (some (.ref s.heap.objs.size)) { s with heap := h' } := fun h' e1 e2 e3 e4 e5 e6 e7 =>
      hQ h' ⟨.inr ⟨s.heap.objs.size, false, _, e1, e5, Nat.ne_of_gt lz, Nat.ne_of_gt lo, Nat.ne_of_gt (Heap.lt_size g1), Nat.ne_of_gt (Heap.lt_size g2), Nat.ne_of_gt hS⟩, e7 _ _ D.TIz D.TITO D.TIi1 D.TIi2 ti, ⟨_, _, e2⟩, e3, e4⟩ e5 e6 e7
    cases kd with
    | l => exact wpAny_pyNext_zip_item D zip ti out one two sa sb hx hy fin
    | t =>
      refine zip_road zip rfl (wpAny_mono (zipT_next_item (Q := fun v s' => Q (some v) s') D zip ti out one two sa sb hx hy fin) (fun _ _ q => q) fun e s' q => q)
  · refine zip_road zip rfl (wpAny_mono (zip_on_item (Q := fun v s' => Q (some v) s') zip gT ti D one two sa sb hx hy fun h' e1 e2 e3 e4 e5 e6 => ?_) (fun _ _ q => q) fun e s' q => q)
    exact hQ h' ⟨.inr ⟨T, true, o, e1, e6 _ _ t1 t3 t4 gT, t1, t2, t3, t4, t5⟩, e6 _ _ D.TIz D.TIi1 D.TIi2 ti, ⟨u, v, e6 _ _ D.TOz D.TOi1 D.TOi2 out⟩, e2, e3⟩ e4 e5 fun c o c1 _ c3 c4 e => e6 c o c1 c3 c4 e
/-- the end -/
theorem zs_end {S z TI TO i1 i2 a b : Addr} {k : Nat} {xs ys : Array Value} {Q : Option Value → Shared → Prop} (hh : A.handled = none) (D : ZipApart z TI TO i1 i2 a b) (Z : ZS kd S s.heap z TI TO i1 i2 a b k)
    (sa : kd.sq s.heap a xs) (sb : kd.sq s.heap b ys) (hx : xs[k]? = none)
    (hQ : ∀ h', (∀ c o, c ≠ z → c ≠ TO → c ≠ i1 → c ≠ i2 → s.heap.get? c = some o → h'.get? c = some o) → Q none { s with heap := h' }) :
    wpAny (model prog w) A (pyNext (.ref z)) Q E s := by
  obtain ⟨zip, ti, ⟨u, v, out⟩, one, two⟩ := Z
  have fin : ∀ h' e, (∀ c o, c ≠ z → c ≠ TO → c ≠ i1 → c ≠ i2 → s.heap.get? c = some o → h'.get? c = some o) → (∃ o, h'.get? e = some o ∧ o.cls = .type "StopIteration") →
      (fun (e : Value) (s' : Shared) => ∃ ob, s'.heap.get? (match e with | .ref c => c | _ => 0) = some ob ∧ ob.cls = .type "StopIteration" ∧ (∃ c, e = .ref c) ∧ Q none s') (.ref e) { s with heap := h' } := fun h' e keep ⟨o, g, c⟩ => ⟨o, g, c, ⟨e, rfl⟩, hQ h' keep⟩
  rcases zip with zip | ⟨T, f, o, zip, gT, t1, t2, t3, t4, t5⟩
  · refine zip_road zip rfl ?_
    cases kd with
    | l => exact zip_next_end hh D zip ti out one two sa sb (.inl hx) fin
    | t => exact zipT_next_end hh D zip ti out one two sa sb (.inl hx) fin
  · exact zip_road zip rfl (zip_on_end hh zip gT ti D one sa hx fun h' e keep he => fin h' e (fun c o c1 _ c3 _ q => keep c o c1 c3 q) he)
theorem ZS.at {S z TI TO i1 i2 a b : Addr} {k : Nat} {h h' : Heap} (Z : ZS kd S h z TI TO i1 i2 a b k) (e : ∀ c o, c ≠ S → h.get? c = some o → h'.get? c = some o) (n1 : z ≠ S) (n2 : TI ≠ S) (n3 : TO ≠ S) (n4 : i1 ≠ S) (n5 : i2 ≠ S) : ZS kd S h' z TI TO i1 i2 a b k := by
  obtain ⟨zip, ti, ⟨u, v, out⟩, one, two⟩ := Z
  refine ⟨?_, e _ _ n2 ti, ⟨u, v, e _ _ n3 out⟩, Sk.it_at one fun o q => e _ o n4 q, Sk.it_at two fun o q => e _ o n5 q⟩
  rcases zip with zip | ⟨T, f, o, zip, gT, t1, t2, t3, t4, t5⟩
  · exact .inl (e _ _ n1 zip)
  · exact .inr ⟨T, f, o, e _ _ n1 zip, e _ _ t5 gT, t1, t2, t3, t4, t5⟩
/-- the tuples that stand in the list -/
def Prs (h : Heap) (xs ys : Array Value) (S : Addr) (ts : List Addr) : Prop := ts.Nodup ∧ ∀ (j : Nat) (t : Addr), ts[j]? = some t → S < t ∧ ∃ x y, xs[j]? = some x ∧ ys[j]? = some y ∧ IsPair h t x y
/-- the loop that fills the list -/
theorem zl_loop {S z TI TO i1 i2 a b B : Addr} {xs ys : Array Value} {res : Value} {R : Result → Shared → Prop} {s0 : Shared} (hh : A.in1.handled = none) (D : ZipApart z TI TO i1 i2 a b) (len : ys.size = xs.size) (fits : xs.size ≤ sizeLine) (la : a < B) (lb : b < B) (nz : B ≤ z ∧ z < S) (nTI : B ≤ TI ∧ TI < S) (nTO : B ≤ TO ∧ TO < S) (n1 : B ≤ i1 ∧ i1 < S) (n2 : B ≤ i2 ∧ i2 < S)
    (fin : ∀ h' ts c, (∀ c o, c < B → s0.heap.get? c = some o → h'.get? c = some o) → h'.get? S = some { cls := .type "list", dict := none, data := .seq (ts.map Value.ref).toArray c, slots := #[] } → ts.length = xs.size → Prs h' xs ys S ts → R (.ok (.ret res)) { s0 with heap := h' }) :
    ∀ (m k : Nat) (h : Heap) (ts : List Addr) (c : Nat), xs.size - k = m → k ≤ xs.size → ZS kd S h z TI TO i1 i2 a b k → kd.sq h a xs → kd.sq h b ys → (∀ c o, c < B → s0.heap.get? c = some o → h.get? c = some o) →
      h.get? S = some { cls := .type "list", dict := none, data := .seq (ts.map Value.ref).toArray c, slots := #[] } → ts.length = k → Prs h xs ys S ts →
      codeAny (model prog w) A (.builtin "list.extend.loop" ⟨[.ref S, .ref z, res], []⟩) R { s0 with heap := h } := by
  intro m
  induction m with
  | zero =>
    intro k h ts c hm hk Z sa sb keep gS hl pr
    obtain rfl : k = xs.size := by omega
    refine codeAny_builtin PySem.F.entry_extend_loop ?_
    rw [Around.under_plainId PySem.F.plain_extend_loop _]
    show wpAny _ A.in1 (pyNext (.ref z) >>= _) _ _ _
    refine wpAny_bind (zs_end (s := { s0 with heap := h }) hh D Z sa sb (Array.getElem?_size) fun h' e => ?_)
    have low : ∀ c, c < B → c ≠ z ∧ c ≠ TO ∧ c ≠ i1 ∧ c ≠ i2 := fun c hc => ⟨Nat.ne_of_lt (Nat.lt_of_lt_of_le hc nz.1), Nat.ne_of_lt (Nat.lt_of_lt_of_le hc nTO.1), Nat.ne_of_lt (Nat.lt_of_lt_of_le hc n1.1), Nat.ne_of_lt (Nat.lt_of_lt_of_le hc n2.1)⟩
    refine wpAny_pure (fin h' ts c (fun c o hc q => ?_) (e _ _ (Nat.ne_of_gt nz.2) (Nat.ne_of_gt nTO.2) (Nat.ne_of_gt n1.2) (Nat.ne_of_gt n2.2) gS) hl ?_)
    · obtain ⟨q1, q2, q3, q4⟩ := low c hc
      exact e c o q1 q2 q3 q4 (keep c o hc q)
    · refine ⟨pr.1, fun j t ht => ?_⟩
      obtain ⟨q, x, y, ex, ey, p⟩ := pr.2 j t ht
      exact ⟨q, x, y, ex, ey, e _ _ (Nat.ne_of_gt (Nat.lt_trans nz.2 q)) (Nat.ne_of_gt (Nat.lt_trans nTO.2 q)) (Nat.ne_of_gt (Nat.lt_trans n1.2 q)) (Nat.ne_of_gt (Nat.lt_trans n2.2 q)) p⟩
  | succ m ih =>
    intro k h ts c hm hk Z sa sb keep gS hl pr
    have lt : k < xs.size := by omega
    have lS : S < h.objs.size := Heap.lt_size gS
    refine codeAny_builtin PySem.F.entry_extend_loop ?_
    rw [Around.under_plainId PySem.F.plain_extend_loop _]
    show wpAny _ A.in1 (pyNext (.ref z) >>= _) _ _ _
    have hx : xs[k]? = some xs[k] := Array.getElem?_eq_getElem lt
    have hy : ys[k]? = some (ys[k]'(by omega)) := Array.getElem?_eq_getElem (by omega)
    refine wpAny_bind (zs_item (s := { s0 with heap := h }) D Z sa sb hx hy lS fun h1 Z1 p1 _ e1 => ?_)
    have low : ∀ c, c < B → c ≠ z ∧ c ≠ TO ∧ c ≠ i1 ∧ c ≠ i2 := fun c hc => ⟨Nat.ne_of_lt (Nat.lt_of_lt_of_le hc nz.1), Nat.ne_of_lt (Nat.lt_of_lt_of_le hc nTO.1), Nat.ne_of_lt (Nat.lt_of_lt_of_le hc n1.1), Nat.ne_of_lt (Nat.lt_of_lt_of_le hc n2.1)⟩
    have gS1 := e1 _ _ (Nat.ne_of_gt nz.2) (Nat.ne_of_gt nTO.2) (Nat.ne_of_gt n1.2) (Nat.ne_of_gt n2.2) gS
    show wpAny _ A.in1 (updateSeq S (·.push (Value.ref h.objs.size)) >>= _) _ _ _
    refine wpAny_bind ?_
    have oth : ∀ c o, c ≠ S → h1.get? c = some o → (h1.update S (Obj.mapSeq (·.push (Value.ref h.objs.size)))).get? c = some o := fun c o hc e => (Heap.get?_update_other _ _ (Ne.symm hc)).trans e
    have sizes : ((ts.map Value.ref).toArray : Array Value).size = k := by simp [hl]
    have same : ((ts.map Value.ref).toArray.push (Value.ref h.objs.size) : Array Value) = ((ts ++ [h.objs.size]).map Value.ref).toArray := by simp
    have gS2 := Heap.get?_update_self (Obj.mapSeq (·.push (Value.ref h.objs.size))) gS1 rfl
    obtain ⟨c2, gS3⟩ : ∃ c2, (h1.update S (Obj.mapSeq (·.push (Value.ref h.objs.size)))).get? S = some { cls := .type "list", dict := none, data := .seq ((ts ++ [h.objs.size]).map Value.ref).toArray c2, slots := #[] } := ⟨_, by rw [← same]; exact gS2⟩
    refine wpAny_updateSeq gS1 rfl (wpAny_pure ⟨plainId_quiet PySem.F.plain_extend_loop _, ih (k + 1) _ (ts ++ [h.objs.size]) c2 (by omega) lt (Z1.at oth (Nat.ne_of_lt nz.2) (Nat.ne_of_lt nTI.2) (Nat.ne_of_lt nTO.2) (Nat.ne_of_lt n1.2) (Nat.ne_of_lt n2.2)) ?_ ?_ ?_ gS3 ?_ ?_⟩)
      (by rw [sizes]; omega) (by rw [Array.size_push, sizes]; omega)
    · obtain ⟨q1, q2, q3, q4⟩ := low a la
      have ne : a ≠ S := Nat.ne_of_lt (Nat.lt_of_lt_of_le la (Nat.le_of_lt (Nat.lt_of_le_of_lt nz.1 nz.2)))
      exact Sk.sq_at sa fun o q => oth _ _ ne (e1 _ _ q1 q2 q3 q4 q)
    · obtain ⟨q1, q2, q3, q4⟩ := low b lb
      have ne : b ≠ S := Nat.ne_of_lt (Nat.lt_of_lt_of_le lb (Nat.le_of_lt (Nat.lt_of_le_of_lt nz.1 nz.2)))
      exact Sk.sq_at sb fun o q => oth _ _ ne (e1 _ _ q1 q2 q3 q4 q)
    · intro c o hc q
      obtain ⟨q1, q2, q3, q4⟩ := low c hc
      exact oth _ _ (Nat.ne_of_lt (Nat.lt_of_lt_of_le hc (Nat.le_of_lt (Nat.lt_of_le_of_lt nz.1 nz.2)))) (e1 _ _ q1 q2 q3 q4 (keep c o hc q))
    · rw [List.length_append, hl]; rfl
    · refine ⟨?_, fun j t ht => ?_⟩
      · refine List.nodup_append.mpr ⟨pr.1, by simp, fun t ht t2 ht2 e => ?_⟩
        have e2 : t2 = h.objs.size := List.mem_singleton.mp ht2
        obtain ⟨j, hj⟩ := List.getElem?_of_mem ht
        obtain ⟨_, _, _, _, _, p⟩ := pr.2 j t hj
        have := Heap.lt_size p
        rw [e, e2] at this
        exact Nat.lt_irrefl _ this
      · rcases Nat.lt_or_ge j ts.length with hj | hj
        · rw [List.getElem?_append_left hj] at ht
          obtain ⟨q, x, y, ex, ey, p⟩ := pr.2 j t ht
          exact ⟨q, x, y, ex, ey, oth _ _ (Nat.ne_of_gt q) (e1 _ _ (Nat.ne_of_gt (Nat.lt_trans nz.2 q)) (Nat.ne_of_gt (Nat.lt_trans nTO.2 q)) (Nat.ne_of_gt (Nat.lt_trans n1.2 q)) (Nat.ne_of_gt (Nat.lt_trans n2.2 q)) p)⟩
        · rw [List.getElem?_append_right hj] at ht
          have ej : j - ts.length = 0 := by
            rcases Nat.eq_zero_or_pos (j - ts.length) with z0 | z0
            · exact z0
            · rw [List.getElem?_eq_none (by simp; omega)] at ht; cases ht
          rw [ej] at ht
          cases ht
          have e3 : j = k := by omega
          subst e3
          exact ⟨lS, _, _, hx, hy, oth _ _ (Nat.ne_of_gt lS) p1⟩
end
end Mi

set_option Elab.async false
set_option linter.all false
set_option maxRecDepth 100000
set_option maxHeartbeats 4000000
/-! Mi: list(zip(a, b)): the call, and over the layer. -/
namespace Mi
open PySem PySem.Spec PyProof.Rows L2 RZ
theorem zip_no_len : typeLookup (.type "zip") "__len__" = pure none := by rw [typeLookup_type, builtinLookup_eq_fast]; kernel_rfl
theorem zip_no_hint : typeLookup (.type "zip") "__length_hint__" = pure none := by rw [typeLookup_type, builtinLookup_eq_fast]; kernel_rfl
section
variable {prog : Program} {w : World} {A : Around} {E : Value → Shared → Prop} {s : Shared} {kd : Sk}
/-- what list(zip(a, b)) has made: the list at S -/
def Zipped (s : Shared) (xs ys : Array Value) (B : Addr) (Q : Value → Shared → Prop) : Prop := ∀ h' S ts c, B ≤ S → (∀ c o, c < B → s.heap.get? c = some o → h'.get? c = some o) → h'.get? S = some { cls := .type "list", dict := none, data := .seq (ts.map Value.ref).toArray c, slots := #[] } →
  ts.length = xs.size → Prs h' xs ys S ts → Q (.ref S) { s with heap := h' }
theorem list_of_zip {z TI TO i1 i2 a b B : Addr} {xs ys : Array Value} {Q : Value → Shared → Prop} (hh : A.handled = none) (D : ZipApart z TI TO i1 i2 a b) (len : ys.size = xs.size) (fits : xs.size ≤ sizeLine) (la : a < B) (lb : b < B)
    (nz : B ≤ z ∧ z < s.heap.objs.size) (nTI : B ≤ TI ∧ TI < s.heap.objs.size) (nTO : B ≤ TO ∧ TO < s.heap.objs.size) (n1 : B ≤ i1 ∧ i1 < s.heap.objs.size) (n2 : B ≤ i2 ∧ i2 < s.heap.objs.size)
    (zip : IsZip s.heap z TI TO .none) (ti : IsPair s.heap TI (.ref i1) (.ref i2)) (out : IsPair s.heap TO .none .none) (one : kd.it s.heap i1 a 0) (two : kd.it s.heap i2 b 0) (sa : kd.sq s.heap a xs) (sb : kd.sq s.heap b ys)
    (fin : Zipped s xs ys B Q) : wpAny (model prog w) A (call (.type "list") [.ref z]) Q E s := by
  have lowS : B ≤ s.heap.objs.size := Nat.le_of_lt (Nat.lt_of_le_of_lt nz.1 nz.2)
  refine callType_codes (Q₁ := fun obj s1 => obj = .ref s.heap.objs.size ∧ s1 = { s with heap := s.heap.push { cls := .type "list", data := .seq #[] } }) PySem.F.called_list (PySem.F.typeCall_list_1 _) PySem.F.entry_list_init
    (code_list_new _ ⟨rfl, rfl⟩) fun obj s1 e => ?_
  obtain ⟨rfl, rfl⟩ := e
  have gS : (s.heap.push { cls := .type "list", data := .seq #[] }).get? s.heap.objs.size = some { cls := .type "list", data := .seq #[] } := Heap.get?_push_size _ rfl
  have up : ∀ c o, s.heap.get? c = some o → (s.heap.push { cls := .type "list", data := .seq #[] }).get? c = some o := fun c o e => Heap.get?_push_of_some _ e
  refine ⟨⟨_, gS, rfl⟩, PySem.F.args_list_init_2 _ _, ?_⟩
  show wpAny _ A.in1.in1 (do let old ← Builtin.List.listItems (.ref s.heap.objs.size); Builtin.List.listUpdate (.ref s.heap.objs.size) (fun _ => #[]); letGo old.toList.reverse; Builtin.List.listExtendWith (.ref s.heap.objs.size) (.ref z) .none) _ _ _
  refine wpAny_bind ?_
  unfold Builtin.List.listItems
  refine wpAny_bind (wpAny_seqItems gS rfl (wpAny_pure ?_))
  show wpAny _ A.in1.in1 (updateSeq s.heap.objs.size (fun _ => #[]) >>= fun _ => letGo (#[] : Array Value).toList.reverse >>= fun _ => Builtin.List.listExtendWith (.ref s.heap.objs.size) (.ref z) .none) _ _ _
  refine wpAny_bind (wpAny_updateSeq gS rfl ?_)
  have gS1 := Heap.get?_update_self (Obj.mapSeq (fun _ => (#[] : Array Value))) gS rfl
  refine wpAny_bind (wpAny_letGo ?_)
  have hh2 : A.in1.in1.handled = none := by simp [hh]
  have oth1 : ∀ c o, c ≠ s.heap.objs.size → s.heap.get? c = some o → ((s.heap.push { cls := .type "list", data := .seq #[] }).update s.heap.objs.size (Obj.mapSeq (fun _ => (#[] : Array Value)))).get? c = some o := fun c o hc e => (Heap.get?_update_other _ _ (Ne.symm hc)).trans (up c o e)
  generalize (s.heap.push { cls := .type "list", data := .seq #[] }).update s.heap.objs.size (Obj.mapSeq (fun _ => (#[] : Array Value))) = h1 at gS1 oth1 ⊢
  have zip1 : IsZip h1 z TI TO .none := oth1 _ _ (Nat.ne_of_lt nz.2) zip
  have T1 : Shared.TypeIs { s with heap := h1 } (.ref z) "zip" := ⟨_, zip1, rfl⟩
  have ne : s.heap.objs.size ≠ z := Nat.ne_of_gt nz.2
  unfold Builtin.List.listExtendWith
  refine wpAny_bind (wpAny_typeOf T1 ?_)
  have m1 : Builtin.List.listSameRef (.ref s.heap.objs.size) (.ref z) = false := by simp [Builtin.List.listSameRef, ne]
  have m2 : (Value.type "zip" == Value.type "list") = false := by decide
  have m3 : (Value.type "zip" == Value.type "tuple") = false := by decide
  simp only [m1, m2, m3, Bool.or_false, Bool.false_eq_true, if_false]
  refine wpAny_bind (wpAny_pyIter_zip (s := { s with heap := h1 }) zip1 ?_)
  refine wpAny_bind (wpAny_holding ?_)
  unfold Builtin.List.listLengthHint
  refine wpAny_bind (wpAny_specialOf T1 zip_no_len ?_)
  show wpAny _ A.in1.in1 (specialOf (Value.ref z) (Str.ofString "__length_hint__") >>= _) _ _ _
  refine wpAny_bind (wpAny_specialOf T1 zip_no_hint ?_)
  refine wpAny_pure ?_
  show wpAny _ A.in1.in1 (rule "list.extend.makes-room" >>= fun _ => Builtin.List.listTouch (.ref s.heap.objs.size) >>= fun _ => again (.builtin "list.extend.loop" ⟨[.ref s.heap.objs.size, .ref z, .none], []⟩)) _ _ _
  refine wpAny_bind (wpAny_rule (wpAny_bind ?_))
  show wpAny _ A.in1.in1 (updateSeq s.heap.objs.size (·.push .none) >>= fun _ => updateSeq s.heap.objs.size (·.pop)) _ _ _
  refine wpAny_bind (wpAny_updateSeq gS1 rfl ?_)
  have gS2 := Heap.get?_update_self (Obj.mapSeq (·.push Value.none)) gS1 rfl
  refine wpAny_updateSeq (hz := by seq_fits) gS2 rfl ?_
  have gS3 := Heap.get?_update_self (Obj.mapSeq (·.pop)) gS2 rfl
  have oth3 : ∀ c o, c ≠ s.heap.objs.size → s.heap.get? c = some o → ((h1.update s.heap.objs.size (Obj.mapSeq (·.push Value.none))).update s.heap.objs.size (Obj.mapSeq (·.pop))).get? c = some o :=
    fun c o hc e => (Heap.get?_update_other _ _ (Ne.symm hc)).trans ((Heap.get?_update_other _ _ (Ne.symm hc)).trans (oth1 c o hc e))
  have low : ∀ c, c < B → c ≠ s.heap.objs.size := fun c hc => Nat.ne_of_lt (Nat.lt_of_lt_of_le hc lowS)
  obtain ⟨c3, gS4⟩ : ∃ c3, ((h1.update s.heap.objs.size (Obj.mapSeq (·.push Value.none))).update s.heap.objs.size (Obj.mapSeq (·.pop))).get? s.heap.objs.size = some { cls := .type "list", dict := none, data := .seq (([] : List Addr).map Value.ref).toArray c3, slots := #[] } := ⟨_, gS3⟩
  refine wpAny_pure ⟨plainId_quiet PySem.F.plain_extend_loop _, zl_loop (s0 := s) (B := B) (kd := kd) hh2 D len fits la lb nz nTI nTO n1 n2 (fun h' ts c keep g l pr => ⟨rfl, fin h' _ ts c lowS keep g l pr⟩) xs.size 0 _ [] c3 (by omega) (Nat.zero_le _) ?_ ?_ ?_ ?_ gS4 rfl ⟨List.nodup_nil, fun j t ht => by simp at ht⟩⟩
  · exact ⟨.inl (oth3 _ _ (Nat.ne_of_lt nz.2) zip), oth3 _ _ (Nat.ne_of_lt nTI.2) ti, ⟨_, _, oth3 _ _ (Nat.ne_of_lt nTO.2) out⟩, Sk.it_at one fun o e => oth3 _ o (Nat.ne_of_lt n1.2) e, Sk.it_at two fun o e => oth3 _ o (Nat.ne_of_lt n2.2) e⟩
  · exact Sk.sq_at sa fun o e => oth3 _ o (low a la) e
  · exact Sk.sq_at sb fun o e => oth3 _ o (low b lb) e
  · exact fun c o hc e => oth3 c o (low c hc) e
end
end Mi

set_option Elab.async false
set_option linter.all false
set_option maxRecDepth 100000
set_option maxHeartbeats 4000000
/-! Mi: list(zip(a, b)) over the layer. -/
namespace Mi
open PySem PySem.Spec PyProof.Rows L2 RZ
/-- several new objects -/
def addH (H : Hp) : List (Addr × HO) → Hp
  | [] => H
  | p :: r => upd (addH H r) p.1 p.2
theorem addH_old {H : Hp} {c : Addr} : ∀ {r : List (Addr × HO)}, c ∉ r.map (·.1) → addH H r c = H c
  | [], _ => rfl
  | p :: r, h => by
    rw [List.map_cons, List.mem_cons, not_or] at h
    show upd (addH H r) p.1 p.2 c = H c
    rw [upd_ne h.1, addH_old h.2]
theorem addH_new {H : Hp} : ∀ {r : List (Addr × HO)}, (r.map (·.1)).Nodup → ∀ (j : Nat) (p : Addr × HO), r[j]? = some p → addH H r p.1 = some p.2
  | [], _, j, p, h => by simp at h
  | q :: r, nd, 0, p, h => by
    cases h
    exact upd_same
  | q :: r, nd, j + 1, p, h => by
    rw [List.map_cons, List.nodup_cons] at nd
    have e : r[j]? = some p := by simpa using h
    have m : p.1 ∈ r.map (·.1) := List.mem_map_of_mem (List.mem_of_getElem? e)
    show upd (addH H r) q.1 q.2 p.1 = some p.2
    rw [upd_ne (fun z => nd.1 (by rw [← z]; exact m)), addH_new nd.2 j p e]
/-- the pairs -/
def prV (xs ys : List V) : List HO := xs.zipWith (fun x y => HO.tup [x, y]) ys
theorem prV_at {xs ys : List V} {j : Nat} {x y : V} (hx : xs[j]? = some x) (hy : ys[j]? = some y) : (prV xs ys)[j]? = some (.tup [x, y]) := by
  unfold prV
  rw [List.getElem?_zipWith, hx, hy]
section
variable {X : Cx} {pins : List (Addr × Obj)} {σ : L2.St} {H H' : Hp} {s : Shared} {h' : Heap}
theorem un_many {fs ex : List Addr} {h : Heap} (k : ∀ b u, h.get? b = some u → h'.get? b = some u) (old : ∀ b u, H b = some u → H' b = some u) (low : ∀ b, b < h.objs.size → H' b = H b) : Un fs ex H H' h h' where
  keep := fun b u q _ _ _ => k b u q
  slot := fun b u q _ _ _ => ⟨u.slots, k b u q⟩
  free := fun b u q n _ => by rw [low b (Heap.lt_size q)]; exact n
  there := fun b u q _ => ⟨u, k b u q⟩
  tups := fun b xs q => old b _ q
  frzs := fun b u xs q => old b _ q
  tbls := fun b ps q => ⟨#[], by rw [old b _ q]; simp⟩
theorem inv_many (I : Inv X pins σ H s) (k : ∀ b u, s.heap.get? b = some u → h'.get? b = some u) (old : ∀ b u, H b = some u → H' b = some u) (low : ∀ b, b < s.heap.objs.size → H' b = H b)
    (new : ∀ b u, H b = none → H' b = some u → ObjOk X.prog X.w H' h' b u) : Inv X pins σ H' { s with heap := h' } := by
  refine I.un (t' := s.toks) (un_many k old low) fun b u e => ?_
  cases hb : H b with
  | none => exact new b u hb e
  | some v =>
    have e2 := old b v hb
    rw [e] at e2
    cases e2
    exact (I.hok b u hb).stay (fun c v _ q => k c v q) (fun c q => old c _ q) fun c xs q => old c _ q
theorem vals_refs : ∀ (ts : List Addr), Vals (ts.map V.ref) (ts.map Value.ref)
  | [] => .nil
  | t :: ts => .cons rfl (vals_refs ts)
end
def tLz (K : PySem.W.Frag) (ta : TA) : TE := fun σ H Q => ta σ H fun vs H1 => ∃ a b xs ys, vs = [.ref a, .ref b] ∧ ((SqL K H1 a xs ∧ SqL K H1 b ys) ∨ (SqT K H1 a xs ∧ SqT K H1 b ys)) ∧ xs.length = ys.length ∧
  ∀ (S : Addr) (ts : List Addr), ts.length = xs.length → ts.Nodup → S ∉ ts → H1 S = none → (∀ t ∈ ts, H1 t = none) → Q (.ref S) (upd (addH H1 (ts.zip (prV xs ys))) S (.lst (ts.map V.ref)))
theorem vals_back : ∀ {vs : List V} {us : List Value} {j : Nat} {u : Value}, Vals vs us → us[j]? = some u → ∃ v, vs[j]? = some v ∧ RelV v u
  | _, _, _, _, .nil, h => by simp at h
  | _, _, 0, _, .cons r _, h => by cases h; exact ⟨_, rfl, r⟩
  | _, _, j + 1, u, .cons _ t, h => by
    obtain ⟨v, e, r⟩ := vals_back (j := j) (u := u) t (by simpa using h)
    exact ⟨v, by simpa using e, r⟩
section
variable {X : Cx}
theorem pe_lz (hcalm : X.calm = true) {p p2 pos pos2 : Pos} {e1 e2 : Expr} {ta : TA} (hg : Gl X "list") (hm : X.mg "list" = none) (hg2 : Gl X "zip") (hm2 : X.mg "zip" = none) (ha : PA X [e1, e2] ta)
    (hs : starEach [e1, e2] X.env = (false, eval e1 X.env) :: starEach [e2] X.env) (hpl : (backTo pos2 (starEach [e2] X.env)).any (·.1) = false) :
    PE X (.Call (.Name "list" p) [.Call (.Name "zip" p2) [e1, e2] [] pos2] [] pos) (tLz X.K ta) := by
  refine ⟨fun pins s σ H Q I h => ?_⟩
  refine wpAny_Call_Name_kw (ld_blt I hg hm (rfl : bootBuiltins "list" = some (.type "list")) ?_)
  refine PyProof.Rows.callWith_type1 (Calls.spliced_cons ?_)
  refine wpAny_Call_Name_kw (ld_blt I hg2 hm2 (rfl : bootBuiltins "zip" = some (.type "zip")) ?_)
  refine PyProof.Rows.callWith_type1 (thn (ha.run pos2 pins s σ H _ I h) fun us s1 ⟨vs, H1, I1, r1, a, b, xs, ys, ev, hq, len, q⟩ => ?_) hs hpl
  subst ev
  cases r1 with
  | cons r rr =>
  cases rr with
  | cons r' rr =>
  cases rr
  cases r
  cases r'
  have fin : ∀ (its its2 : List Value) (h0 : Heap), Vals xs its → Vals ys its2 → (∀ c o, s1.heap.get? c = some o → h0.get? c = some o) → Zipped { s1 with heap := h0 } its.toArray its2.toArray s1.heap.objs.size (EP X pins σ Q) := by
    intro its its2 h0 rv rv2 keep h' S ts c lo keep2 gS lt pr
    have lenT : ts.length = xs.length := by rw [lt, List.size_toArray, ← rv.length]
    have up : ∀ t ∈ ts, S < t := fun t ht => by
      obtain ⟨j, hj⟩ := List.getElem?_of_mem ht
      exact (pr.2 j t hj).1
    have notS : S ∉ ts := fun z => Nat.lt_irrefl _ (up S z)
    have keys : (ts.zip (prV xs ys)).map (·.1) = ts := by
      have e : (ts.zip (prV xs ys)).map Prod.fst = ts := List.map_fst_zip (by rw [lenT]; unfold prV; rw [List.length_zipWith, len, Nat.min_self]; exact Nat.le_refl _)
      exact e
    have free : ∀ c, s1.heap.objs.size ≤ c → H1 c = none := fun c hc => I1.hok.fresh hc
    have below : ∀ c u, H1 c = some u → c < s1.heap.objs.size := fun c u e => by
      rcases Nat.lt_or_ge c s1.heap.objs.size with q | q
      · exact q
      · rw [free c q] at e; cases e
    have same : ∀ c, c < s1.heap.objs.size → upd (addH H1 (ts.zip (prV xs ys))) S (.lst (ts.map V.ref)) c = H1 c := fun c hc => by
      rw [upd_ne (Nat.ne_of_lt (Nat.lt_of_lt_of_le hc lo)), addH_old (by rw [keys]; exact fun z => Nat.lt_irrefl _ (Nat.lt_trans (Nat.lt_of_lt_of_le hc lo) (up c z)))]
    refine ⟨.ref S, _, inv_many (s := s1) (h' := h') I1 (fun b u e => keep2 b u (Heap.lt_size e) (keep b u e)) (fun b u e => by rw [same b (below b u e)]; exact e) same (fun b u hn e => ?_), rfl, q S ts lenT pr.1 notS (free S lo) fun t ht => free t (Nat.le_trans lo (Nat.le_of_lt (up t ht)))⟩
    by_cases hb : b = S
    · subst hb
      rw [upd_same] at e
      cases e
      refine ⟨by rw [List.length_map, lenT]; exact (by rcases hq with ⟨z, _⟩ | ⟨z, _⟩; obtain ⟨_, r0, _, z0⟩ := I1.list z; exact z0; obtain ⟨_, r0, _, z0⟩ := I1.tuple z; exact z0), ts.map Value.ref, c, vals_refs ts, gS⟩
    · rw [upd_ne hb] at e
      by_cases hm : b ∈ ts
      · obtain ⟨j, hj⟩ := List.getElem?_of_mem hm
        obtain ⟨_, x, y, hx, hy, p⟩ := pr.2 j b hj
        obtain ⟨vx, ex, rx⟩ : ∃ vx, xs[j]? = some vx ∧ RelV vx x := vals_back rv (by simpa using hx)
        obtain ⟨vy, ey, ry⟩ : ∃ vy, ys[j]? = some vy ∧ RelV vy y := vals_back rv2 (by simpa using hy)
        have z := addH_new (H := H1) (r := ts.zip (prV xs ys)) (by rw [keys]; exact pr.1) j (b, .tup [vx, vy]) (List.getElem?_zip_eq_some.mpr ⟨hj, prV_at ex ey⟩)
        rw [z] at e
        cases e
        exact ⟨by rw [sizeLine_eq]; simp, [x, y], .cons rx (.cons ry .nil), _, p, rfl, 0, rfl⟩
      · rw [addH_old (by rw [keys]; exact hm), hn] at e
        cases e
  have sizes : ∀ {its its2 : List Value}, Vals xs its → Vals ys its2 → its2.toArray.size = its.toArray.size := fun r1 r2 => by rw [List.size_toArray, List.size_toArray, ← r1.length, ← r2.length, len]
  rcases hq with ⟨hqx, hqy⟩ | ⟨hqx, hqy⟩
  · obtain ⟨its, rv, p1, z1⟩ := I1.list hqx
    obtain ⟨its2, rv2, p2', z2⟩ := I1.list hqy
    refine call_zip_2 p1.isList p2'.isList fun h0 hz hTI hTO h1 h2 hsz hk => Calls.spliced_nil ?_
    have D := PySem.W.ktu_apart s1.heap.objs.size a b p1.lt p2'.lt
    refine list_of_zip (s := { s1 with heap := h0 }) (kd := .l) (B := s1.heap.objs.size) (I1.ok.hd hcalm) D (sizes rv rv2) (by rw [List.size_toArray, ← rv.length]; exact z1) p1.lt p2'.lt ?_ ?_ ?_ ?_ ?_ hz hTI hTO h1 h2 (Heap.IsList.at p1.isList fun o e => hk _ o e) (Heap.IsList.at p2'.isList fun o e => hk _ o e) (fin its its2 h0 rv rv2 hk)
    all_goals (refine ⟨by first | exact Nat.le_refl _ | exact Nat.le_add_right _ _, ?_⟩; show _ < h0.objs.size; rw [hsz]; first | exact Nat.lt_add_of_pos_right (by decide) | exact Nat.add_lt_add_left (by decide) _)
  · obtain ⟨its, rv, p1, z1⟩ := I1.tuple hqx
    obtain ⟨its2, rv2, p2', z2⟩ := I1.tuple hqy
    obtain ⟨o1, g1, _⟩ := id p1
    obtain ⟨o2, g2, _⟩ := id p2'
    refine call_zipT (show s1.heap.IsTuple a its.toArray from p1) (show s1.heap.IsTuple b its2.toArray from p2') fun h0 hz hTI hTO h1 h2 hsz hk => Calls.spliced_nil ?_
    have D := PySem.W.ktu_apart s1.heap.objs.size a b (Heap.lt_size g1) (Heap.lt_size g2)
    refine list_of_zip (s := { s1 with heap := h0 }) (kd := .t) (B := s1.heap.objs.size) (I1.ok.hd hcalm) D (sizes rv rv2) (by rw [List.size_toArray, ← rv.length]; exact z1) (Heap.lt_size g1) (Heap.lt_size g2) ?_ ?_ ?_ ?_ ?_ hz hTI hTO h1 h2 (Sk.sq_at (kd := .t) p1 fun o e => hk _ o e) (Sk.sq_at (kd := .t) p2' fun o e => hk _ o e) (fin its its2 h0 rv rv2 hk)
    all_goals (refine ⟨by first | exact Nat.le_refl _ | exact Nat.le_add_right _ _, ?_⟩; show _ < h0.objs.size; rw [hsz]; first | exact Nat.lt_add_of_pos_right (by decide) | exact Nat.add_lt_add_left (by decide) _)
end
end Mi

set_option Elab.async false
set_option linter.all false
set_option maxRecDepth 100000
set_option maxHeartbeats 4000000
/-! Mi: min and max of two texts. -/
namespace Mi
open PySem PySem.Spec PyProof.Rows L2
section
variable {prog : Program} {w : World} {A : Around} {E : Value → Shared → Prop} {s : Shared} {x y : Str} {t u : Tok}
theorem rc_lt {Q : Value → Shared → Prop} (h : Q (.bool (x.cps.toList < y.cps.toList)) s) : wpAny (model prog w) A (richCompare .Lt (.str x t) (.str y u)) Q E s :=
  richCompare_gives (op := .Lt) (typeIs_str s x t) (typeIs_str s y u) PySem.F.slot_str_lt PySem.F.entry_str_lt (PySem.F.args_str_lt_2 _ _) (gives_str_lt x y t u) (fun e => nomatch e) h
theorem rc_gt {Q : Value → Shared → Prop} (h : Q (.bool (y.cps.toList < x.cps.toList)) s) : wpAny (model prog w) A (richCompare .Gt (.str x t) (.str y u)) Q E s :=
  richCompare_gives (op := .Gt) (typeIs_str s x t) (typeIs_str s y u) PySem.F.slot_str_gt PySem.F.entry_str_gt (PySem.F.args_str_gt_2 _ _) (gives_str_gt x y t u) (fun e => nomatch e) h
def tx (xs : Array (Str × Tok)) (i : Nat) : List Nat := ((xs.getD i (Str.empty, 0)).1).cps.toList
def txV (xs : Array (Str × Tok)) : Array Value := xs.map fun p => .str p.1 p.2
theorem txV_at {xs : Array (Str × Tok)} {i : Nat} {v : Value} (h : (txV xs)[i]? = some v) : ∃ z k, v = .str z k ∧ z.cps.toList = tx xs i := by
  unfold txV at h
  rw [Array.getElem?_map] at h
  obtain ⟨p, e, rfl⟩ := Option.map_eq_some_iff.mp h
  refine ⟨p.1, p.2, rfl, ?_⟩
  unfold tx
  rw [Array.getD_eq_getD_getElem?, e]; rfl
theorem cmp_lt (xs : Array (Str × Tok)) : CmpOf prog w A .Lt (fun i v => (txV xs)[i]? = some v) (fun i j => decide (tx xs i < tx xs j)) := fun i j vi vj s Q E hi hj h => by
  obtain ⟨z, k, rfl, e1⟩ := txV_at hi
  obtain ⟨z2, k2, rfl, e2⟩ := txV_at hj
  exact rc_lt (by rw [e1, e2]; exact h)
theorem cmp_gt (xs : Array (Str × Tok)) : CmpOf prog w A .Gt (fun i v => (txV xs)[i]? = some v) (fun i j => decide (tx xs j < tx xs i)) := fun i j vi vj s Q E hi hj h => by
  obtain ⟨z, k, rfl, e1⟩ := txV_at hi
  obtain ⟨z2, k2, rfl, e2⟩ := txV_at hj
  exact rc_gt (by rw [e1, e2]; exact h)
theorem min_strs (hh : A.handled = none) {Q : Value → Shared → Prop} (h : ∀ h' tk, (∀ c o, s.heap.get? c = some o → h'.get? c = some o) → Q (if y.cps.toList < x.cps.toList then .str y u else .str x t) { s with heap := h', toks := tk }) :
    wpAny (model prog w) A (call (.builtin "min") [.str x t, .str y u]) Q E s := by
  have hT : (s.heap.push { cls := .type "tuple", data := .seq #[.str x t, .str y u] }).IsTuple s.heap.objs.size (txV #[(x, t), (y, u)]) := ⟨_, Heap.get?_push_size _ rfl, rfl, 0, by simp [txV]⟩
  have size1 : (s.heap.push { cls := .type "tuple", data := .seq #[.str x t, .str y u] }).objs.size = s.heap.objs.size + 1 := Heap.size_push ..
  refine call_min_two (wpAny_pyIter_tuple hT ?_)
  refine ⟨_, [_, s.heap.objs.size], [_], _, _, _, _, rfl, Walks.tuple (A := A.in1) hh _ s.heap.objs.size (by rw [size1]; exact Nat.ne_of_lt (Nat.lt_succ_self _)) (txV #[(x, t), (y, u)]),
    ⟨⟨_, Heap.get?_push_size _ rfl, rfl, rfl⟩, hT.push _⟩, fun c hc => ?_, by simp [txV], cmp_lt #[(x, t), (y, u)], fun v h' tk hP hk => ?_⟩
  · show c < ((s.heap.push _).push _).objs.size
    rw [Heap.size_push, size1]
    rcases List.mem_cons.mp hc with e | hc
    · rw [e, size1]; exact Nat.lt_succ_self _
    · rw [List.mem_singleton.mp hc]; exact Nat.lt_succ_of_lt (Nat.lt_succ_self _)
  · have old : ∀ c o, s.heap.get? c = some o → h'.get? c = some o := fun c o e => by
      refine hk c o (fun hm => ?_) (Heap.get?_push_of_some _ (Heap.get?_push_of_some _ e))
      have e1 := List.mem_singleton.mp hm
      have z := Heap.lt_size e
      rw [e1, size1] at z
      exact Nat.lt_irrefl _ (Nat.lt_of_succ_lt z)
    have q := h h' tk old
    have hv : v = if y.cps.toList < x.cps.toList then .str y u else .str x t := by
      have hs2 : (txV #[(x, t), (y, u)]).size - 1 = 1 := by simp [txV]
      rw [hs2] at hP
      by_cases lt : y.cps.toList < x.cps.toList
      · have e : argBest (fun i j => decide (tx #[(x, t), (y, u)] i < tx #[(x, t), (y, u)] j)) 1 = 1 := by simp [argBest, tx, lt]
        rw [e] at hP
        rw [if_pos lt]
        simpa [txV] using hP.symm
      · have e : argBest (fun i j => decide (tx #[(x, t), (y, u)] i < tx #[(x, t), (y, u)] j)) 1 = 0 := if_neg (show ¬ (decide (tx #[(x, t), (y, u)] 1 < tx #[(x, t), (y, u)] 0) = true) from fun q => lt (of_decide_eq_true q))
        rw [e] at hP
        rw [if_neg lt]
        simpa [txV] using hP.symm
    rw [hv]; exact q
theorem max_strs (hh : A.handled = none) {Q : Value → Shared → Prop} (h : ∀ h' tk, (∀ c o, s.heap.get? c = some o → h'.get? c = some o) → Q (if x.cps.toList < y.cps.toList then .str y u else .str x t) { s with heap := h', toks := tk }) :
    wpAny (model prog w) A (call (.builtin "max") [.str x t, .str y u]) Q E s := by
  have hT : (s.heap.push { cls := .type "tuple", data := .seq #[.str x t, .str y u] }).IsTuple s.heap.objs.size (txV #[(x, t), (y, u)]) := ⟨_, Heap.get?_push_size _ rfl, rfl, 0, by simp [txV]⟩
  have size1 : (s.heap.push { cls := .type "tuple", data := .seq #[.str x t, .str y u] }).objs.size = s.heap.objs.size + 1 := Heap.size_push ..
  refine call_max_two (wpAny_pyIter_tuple hT ?_)
  refine ⟨_, [_, s.heap.objs.size], [_], _, _, _, _, rfl, Walks.tuple (A := A.in1) hh _ s.heap.objs.size (by rw [size1]; exact Nat.ne_of_lt (Nat.lt_succ_self _)) (txV #[(x, t), (y, u)]),
    ⟨⟨_, Heap.get?_push_size _ rfl, rfl, rfl⟩, hT.push _⟩, fun c hc => ?_, by simp [txV], cmp_gt #[(x, t), (y, u)], fun v h' tk hP hk => ?_⟩
  · show c < ((s.heap.push _).push _).objs.size
    rw [Heap.size_push, size1]
    rcases List.mem_cons.mp hc with e | hc
    · rw [e, size1]; exact Nat.lt_succ_self _
    · rw [List.mem_singleton.mp hc]; exact Nat.lt_succ_of_lt (Nat.lt_succ_self _)
  · have old : ∀ c o, s.heap.get? c = some o → h'.get? c = some o := fun c o e => by
      refine hk c o (fun hm => ?_) (Heap.get?_push_of_some _ (Heap.get?_push_of_some _ e))
      have e1 := List.mem_singleton.mp hm
      have z := Heap.lt_size e
      rw [e1, size1] at z
      exact Nat.lt_irrefl _ (Nat.lt_of_succ_lt z)
    have q := h h' tk old
    have hv : v = if x.cps.toList < y.cps.toList then .str y u else .str x t := by
      have hs2 : (txV #[(x, t), (y, u)]).size - 1 = 1 := by simp [txV]
      rw [hs2] at hP
      by_cases lt : x.cps.toList < y.cps.toList
      · have e : argBest (fun i j => decide (tx #[(x, t), (y, u)] j < tx #[(x, t), (y, u)] i)) 1 = 1 := by simp [argBest, tx, lt]
        rw [e] at hP
        rw [if_pos lt]
        simpa [txV] using hP.symm
      · have e : argBest (fun i j => decide (tx #[(x, t), (y, u)] j < tx #[(x, t), (y, u)] i)) 1 = 0 := if_neg (show ¬ (decide (tx #[(x, t), (y, u)] 0 < tx #[(x, t), (y, u)] 1) = true) from fun q => lt (of_decide_eq_true q))
        rw [e] at hP
        rw [if_neg lt]
        simpa [txV] using hP.symm
    rw [hv]; exact q
end
section
variable {X : Cx}
theorem cr_min2s (hc : X.calm = true) : CallR X (.builtin "min") (fun xs H Q => ∃ x y : Str, xs = [.str x, .str y] ∧ Q (.str (if y.cps.toList < x.cps.toList then y else x)) H) := by
  intro pins s σ H xs us Q I r h
  obtain ⟨x, y, rfl, q⟩ := h
  obtain ⟨u, w', rfl, ⟨t, rfl⟩, ⟨t', rfl⟩⟩ := vals2 r
  refine min_strs (I.ok.hd hc) fun h' tk k => ⟨_, H, I.kept k, ?_, q⟩
  split <;> exact ⟨_, rfl⟩
theorem cr_max2s (hc : X.calm = true) : CallR X (.builtin "max") (fun xs H Q => ∃ x y : Str, xs = [.str x, .str y] ∧ Q (.str (if x.cps.toList < y.cps.toList then y else x)) H) := by
  intro pins s σ H xs us Q I r h
  obtain ⟨x, y, rfl, q⟩ := h
  obtain ⟨u, w', rfl, ⟨t, rfl⟩, ⟨t', rfl⟩⟩ := vals2 r
  refine max_strs (I.ok.hd hc) fun h' tk k => ⟨_, H, I.kept k, ?_, q⟩
  split <;> exact ⟨_, rfl⟩
end
end Mi

set_option Elab.async false
set_option linter.all false
set_option maxRecDepth 100000
set_option maxHeartbeats 4000000
/-! Mi: d.get(None, z) of a dict of ints and texts. -/
namespace Mi
open PySem PySem.Spec PyProof.Rows L2
section
variable {prog : Program} {w : World} {A : Around} {E : Value → Shared → Prop} {s : Shared}
theorem hash_none {Q : Int → Shared → Prop} (h : Q 4238894112 { s with toks := s.toks + 1 }) : wpAny (model prog w) A (pyHash .none) Q E s := by
  unfold pyHash pyHashByItsType
  have T0 : s.TypeIs .none "NoneType" := rfl
  have hv : [Value.none].any Value.onHeap = false := rfl
  refine wpAny_bind ?_
  rw [cRoomFor, if_neg (by rw [hv]; exact Bool.false_ne_true)]
  refine wpAny_pure ?_
  refine wpAny_bind (wpAny_specialOf T0 PySem.F.slot_NoneType_hash.lookup ?_)
  show wpAny _ _ (if (some (Value.builtin "NoneType.__hash__") == some Value.none) = true then _ else _) Q E s
  rw [if_neg (by decide)]
  refine wpAny_bind (wpAny_specialOf T0 PySem.F.slot_NoneType_hash.lookup ?_)
  show wpAny _ _ (callSpecialIfBoundUnlessNone? .none "__hash__" _ >>= _) Q E s
  refine wpAny_bind (wpAny_callSpecialIfBoundUnlessNone?_slot T0 PySem.F.slot_NoneType_hash (wpAny_call_entry PySem.F.slot_NoneType_hash T0 PySem.F.entry_NoneType_hash
    (show wpAny _ _ (do ret (← mkInt 4238894112)) _ _ s from wpAny_ret_mkInt ?_) (PySem.F.args_NoneType_hash_1 _)))
  show wpAny _ _ (if (decide (-(2 : Int) ^ 63 ≤ 4238894112) && decide ((4238894112 : Int) < 2 ^ 63)) = true then _ else _) Q E _
  rw [if_pos (by decide)]
  exact wpAny_pure h
end
def isN (k : Option Key) (v : Value) : Bool := match k with
  | some k => keyIs k v
  | none => match v with
    | .none => true
    | _ => false
theorem isN_none {v : Value} (h : isN none v = true) : v = .none := by
  cases v <;> first | rfl | cases h
def kN (prog : Program) (w : World) : PySem.KeyKind prog w (Option Key) where
  is := isN
  hash := fun k => match k with
    | some k => keyH w k
    | none => 4238894112
  inj := fun v a b ha hb => by
    cases a with
    | none =>
      obtain rfl := isN_none ha
      cases b with
      | none => rfl
      | some b => rcases keyIs_shape hb with ⟨_, _, _, e⟩ | ⟨_, _, _, e⟩ <;> cases e
    | some a =>
      cases b with
      | none =>
        obtain rfl := isN_none hb
        rcases keyIs_shape ha with ⟨_, _, _, e⟩ | ⟨_, _, _, e⟩ <;> cases e
      | some b => rw [(mixKind prog w).inj v a b ha hb]
  byValue := fun k v h => by
    cases k with
    | none => obtain rfl := isN_none h; rfl
    | some k => exact (mixKind prog w).byValue k v h
  pyHash := fun {A E s k v Q} hv h => by
    cases k with
    | none => obtain rfl := isN_none hv; exact hash_none h
    | some k => exact (mixKind prog w).pyHash (k := k) hv h
  eqBool := fun {A E s a b u v Q} hu hv h => by
    cases a with
    | none =>
      obtain rfl := isN_none hu
      cases b with
      | none =>
        obtain rfl := isN_none hv
        have h' : Q true s := by simpa using h
        unfold PySem.eqBool
        have e : (Value.none == Value.none) = true := by decide
        rw [e]
        exact (wpAny_pure h' : wpAny (model prog w) A (pure true) Q E s)
      | some b =>
        have h' : Q false s := by simpa using h
        rcases keyIs_shape hv with ⟨_, _, _, rfl⟩ | ⟨_, _, _, rfl⟩
        · exact SeqAt.EqAt.none_int _ _ _ _ _ _ h'
        · exact SeqAt.EqAt.none_str _ _ _ _ _ _ h'
    | some a =>
      cases b with
      | none =>
        have h' : Q false s := by simpa using h
        obtain rfl := isN_none hv
        rcases keyIs_shape hu with ⟨_, _, _, rfl⟩ | ⟨_, _, _, rfl⟩
        · exact SeqAt.EqAt.int_none _ _ _ _ _ _ h'
        · exact SeqAt.EqAt.str_none _ _ _ _ _ _ h'
      | some b => exact (mixKind prog w).eqBool (a := a) (b := b) hu hv (by simpa using h)
  «strs» := fun k x t v h => by
    cases k with
    | none => cases isN_none h
    | some k => exact (mixKind prog w).strs k x t v h
section
variable {X : Cx} {pins : List (Addr × Obj)} {σ : L2.St} {H : Hp} {s : Shared} {A : Around} {E : Value → Shared → Prop}
theorem d_getN {a : Addr} {kvs : List (Key × V)} {d : V} {r : Value} {Q : Value → Shared → Prop} (I : Inv X pins σ H s) (e : Rd H a (.dK kvs)) (rd : RelV d r) (h : ∀ w' s', Inv X pins σ H s' → RelV d w' → Q w' s') :
    wpAny (model X.prog X.w) A (call (.builtin "dict.get") [.ref a, .none, r]) Q E s := by
  obtain ⟨z, hd, vs, rel, dd⟩ := dk_rd I.hok e
  obtain ⟨o, es, ep, g, ex, dt, keys, find⟩ := dd.mapOf
  have keys' : KeysOf (kN X.prog X.w) es := fun en hen => by
    obtain ⟨k, q1, q2⟩ := keys en hen
    exact ⟨some k, q1, q2⟩
  have none_ : findBy (kN X.prog X.w).is es none = none := by
    unfold findBy
    have : es.find? (fun en => isN none en.key) = none := by
      rw [Array.find?_eq_none]
      intro en hen c
      obtain ⟨k, q1, _⟩ := keys en hen
      have := isN_none c
      rw [this] at q1
      rcases keyIs_shape q1 with ⟨_, _, _, q⟩ | ⟨_, _, _, q⟩ <;> cases q
    show Option.map _ (es.find? (fun en => isN none en.key)) = none
    rw [this]; rfl
  refine call_meetsIn PySem.F.slot_dict_get dd.typeIs PySem.F.entry_dict_get (PySem.F.args_dict_get_3 _ _ _) (meets_dict_get_default (kN X.prog X.w) a (k := none) (key := .none) (by rfl) hd r)
    ⟨fun k => findBy (kN X.prog X.w).is es k, ⟨o, es, ep, g, ex, dt, keys', fun k => rfl⟩, h _ _ (I.tok _) ?_⟩
  show RelV d ((findBy (kN X.prog X.w).is es none).getD r)
  rw [none_]
  exact rd
end
end Mi

set_option Elab.async false
set_option linter.all false
set_option maxRecDepth 100000
set_option maxHeartbeats 1000000
/-! Mi: plain data over the layer's heap: what a value is worth, with lists and dicts at places of a heap of our own. -/
namespace Mi
open PySem PySem.Spec PyProof.Rows L2

/-- a key of a dict -/
inductive Ky where
  | i (n : Int) | s (l : List Nat)
  deriving DecidableEq

/-- a value: plain data; ref: a place of the heap (a list, a dict); exn: an exception of our class c -/
inductive D where
  | non | bl (b : Bool) | int (i : Int) | str (l : List Nat) | tup (xs : List D) | ref (a : Nat) | exn (c : Nat) (fs : List D)

def Ky.d : Ky → D
  | .i n => .int n
  | .s l => .str l
def D.ky : D → Option Ky
  | .int n => some (.i n)
  | .str l => some (.s l)
  | _ => none
theorem D.ky_d {d : D} {k : Ky} (h : d.ky = some k) : d = k.d := by
  cases d <;> first | (cases h; rfl) | cases h

/-- what stands at a place: a list, a list that is read alone, a dict (locked: a loop goes over it) -/
inductive O where
  | lst (xs : List D) | fro (xs : List D) | dct (lk : Bool) (kvs : List (Ky × D))
abbrev Hh := List O

/-- an exception's object: of the class at C, with its dict -/
def ExH (C : Addr) (d : Option Addr) (a : Addr) : HO := .ext fun h => ∃ (oe : Obj) (vs : Array Value), h.get? a = some oe ∧ Zc (.ref C) d oe ∧ oe.data = .fields vs
def Imm (a : Addr) (o : HO) : Prop := (∃ xs, o = .tup xs) ∨ (∃ C d, o = ExH C d a) ∨ (∃ fs, o = .xd fs) ∨ ∃ q u, o = .frz q u

/-- .. by which a value is what it is -/
def Imm0 (a : Addr) (o : HO) : Prop := (∃ xs, o = .tup xs) ∨ (∃ C d, o = ExH C d a) ∨ ∃ fs, o = .xd fs
def Ext0 (H H' : Hp) : Prop := ∀ a o, Imm0 a o → H a = some o → H' a = some o
/-- what stands still -/
def Ext (H H' : Hp) : Prop := ∀ a o, Imm a o → H a = some o → H' a = some o
theorem Imm0.imm {a : Addr} {o : HO} (h : Imm0 a o) : Imm a o := by
  rcases h with h | h | h
  · exact .inl h
  · exact .inr (.inl h)
  · exact .inr (.inr (.inl h))
theorem Ext.e0 {H H' : Hp} (e : Ext H H') : Ext0 H H' := fun a o i h => e a o i.imm h
theorem Ext.refl (H : Hp) : Ext H H := fun _ _ _ h => h
theorem Ext.trans {H H1 H2 : Hp} (a : Ext H H1) (b : Ext H1 H2) : Ext H H2 := fun x o i h => b x o i (a x o i h)
theorem Ext.new {H : Hp} {p : Addr} {o : HO} (h : H p = none) : Ext H (upd H p o) := fun a u _ e => by
  rw [upd_ne (ne_of_none e h)]; exact e
theorem ext_inj {φ ψ : Heap → Prop} (h : (HO.ext φ) = .ext ψ) : φ = ψ := by cases h; rfl
/-- one that may change is changed -/
def Chg : HO → Prop
  | .lst _ => True
  | .dK _ => True
  | .frz _ _ => True
  | _ => False
/-- one that is written -/
def Wri : HO → Prop
  | .lst _ => True
  | .dK _ => True
  | _ => False
theorem Wri.ne {a : Addr} {o u : HO} (h : Wri o) (i : Imm a u) : o ≠ u := by
  rcases i with ⟨xs, rfl⟩ | ⟨C, d, rfl⟩ | ⟨fs, rfl⟩ | ⟨q, u, rfl⟩
  · intro e; subst e; exact h
  · intro e; subst e; exact h
  · intro e; subst e; exact h
  · intro e; subst e; exact h
theorem Ext.chg {H : Hp} {p : Addr} {o u : HO} (h : H p = some o) (c : Wri o) : Ext H (upd H p u) := fun a v i e => by
  rw [upd_ne]
  · exact e
  · intro q; subst q; rw [h] at e; exact c.ne i (Option.some.inj e)

/-- where a class of ours stands -/
structure Tab where
  K : PySem.W.Frag
  xa : Nat → Addr
  xf : Nat → List Str

mutual
inductive RelD (T : Tab) (ρ : List Addr) (H : Hp) : D → V → Prop
  | non : RelD T ρ H .non .non
  | bl (b : Bool) : RelD T ρ H (.bl b) (.bl b)
  | int (i : Int) : RelD T ρ H (.int i) (.int i)
  | str {l : List Nat} {x : Str} (h : x.cps.toList = l) : RelD T ρ H (.str l) (.str x)
  | tup {ds : List D} {a : Addr} {vs : List V} (h : H a = some (.tup vs)) (r : RelDs T ρ H ds vs) : RelD T ρ H (.tup ds) (.ref a)
  | ref {i : Nat} {a : Addr} (h : ρ[i]? = some a) : RelD T ρ H (.ref i) (.ref a)
  | exn {c : Nat} {a : Addr} (h : H a = some (ExH (T.xa c) none a)) : RelD T ρ H (.exn c []) (.ref a)
  | exf {c : Nat} {a dx : Addr} {fs : List D} {vs : List V} (h : H a = some (ExH (T.xa c) (some dx) a)) (hd : H dx = some (.xd ((T.xf c).zip vs))) (hl : (T.xf c).length = vs.length) (r : RelDs T ρ H fs vs) : RelD T ρ H (.exn c fs) (.ref a)
inductive RelDs (T : Tab) (ρ : List Addr) (H : Hp) : List D → List V → Prop
  | nil : RelDs T ρ H [] []
  | cons {d : D} {ds : List D} {v : V} {vs : List V} (h : RelD T ρ H d v) (t : RelDs T ρ H ds vs) : RelDs T ρ H (d :: ds) (v :: vs)
end
section
variable {T : Tab} {ρ ρ' : List Addr} {H H' : Hp}
theorem pre_get {ρ ρ' : List Addr} (p : ρ <+: ρ') {i : Nat} {a : Addr} (h : ρ[i]? = some a) : ρ'[i]? = some a := by
  obtain ⟨t, rfl⟩ := p
  have hi : i < ρ.length := (List.getElem?_eq_some_iff.mp h).1
  rw [List.getElem?_append_left hi]; exact h
mutual
theorem RelD.mono0 (p : ρ <+: ρ') (e : Ext0 H H') : ∀ {d : D} {v : V}, RelD T ρ H d v → RelD T ρ' H' d v
  | _, _, .non => .non
  | _, _, .bl b => .bl b
  | _, _, .int i => .int i
  | _, _, .str h => .str h
  | _, _, .tup h r => .tup (e _ _ (.inl ⟨_, rfl⟩) h) (RelDs.mono0 p e r)
  | _, _, .ref h => .ref (pre_get p h)
  | _, _, .exn h => .exn (e _ _ (.inr (.inl ⟨_, _, rfl⟩)) h)
  | _, _, .exf h hd hl r => .exf (e _ _ (.inr (.inl ⟨_, _, rfl⟩)) h) (e _ _ (.inr (.inr ⟨_, rfl⟩)) hd) hl (RelDs.mono0 p e r)
theorem RelDs.mono0 (p : ρ <+: ρ') (e : Ext0 H H') : ∀ {ds : List D} {vs : List V}, RelDs T ρ H ds vs → RelDs T ρ' H' ds vs
  | _, _, .nil => .nil
  | _, _, .cons h t => .cons (RelD.mono0 p e h) (RelDs.mono0 p e t)
end
theorem RelD.mono (p : ρ <+: ρ') (e : Ext H H') {d : D} {v : V} (r : RelD T ρ H d v) : RelD T ρ' H' d v := r.mono0 p e.e0
theorem RelDs.mono (p : ρ <+: ρ') (e : Ext H H') {ds : List D} {vs : List V} (r : RelDs T ρ H ds vs) : RelDs T ρ' H' ds vs := r.mono0 p e.e0
theorem RelDs.length : ∀ {ds : List D} {vs : List V}, RelDs T ρ H ds vs → ds.length = vs.length
  | _, _, .nil => rfl
  | _, _, .cons _ t => by rw [List.length_cons, List.length_cons, RelDs.length t]
theorem RelDs.get : ∀ {ds : List D} {vs : List V} {i : Nat} {d : D}, RelDs T ρ H ds vs → ds[i]? = some d → ∃ v, vs[i]? = some v ∧ RelD T ρ H d v
  | _, _, _, _, .nil, h => by simp at h
  | _, _, 0, _, .cons h _, e => by simp at e; subst e; exact ⟨_, rfl, h⟩
  | _, _, i + 1, d, .cons _ t, e => by
    obtain ⟨v, h1, h2⟩ := RelDs.get (i := i) (d := d) t (by simpa using e)
    exact ⟨v, by simpa using h1, h2⟩
theorem RelDs.append : ∀ {ds es : List D} {vs ws : List V}, RelDs T ρ H ds vs → RelDs T ρ H es ws → RelDs T ρ H (ds ++ es) (vs ++ ws)
  | _, _, _, _, .nil, r => r
  | _, _, _, _, .cons h t, r => .cons h (RelDs.append t r)
theorem RelDs.take : ∀ {ds : List D} {vs : List V} (n : Nat), RelDs T ρ H ds vs → RelDs T ρ H (ds.take n) (vs.take n)
  | _, _, 0, _ => by simp; exact .nil
  | _, _, _ + 1, .nil => .nil
  | _, _, n + 1, .cons h t => .cons h (RelDs.take n t)
theorem RelDs.drop : ∀ {ds : List D} {vs : List V} (n : Nat), RelDs T ρ H ds vs → RelDs T ρ H (ds.drop n) (vs.drop n)
  | _, _, 0, r => r
  | _, _, _ + 1, .nil => .nil
  | _, _, n + 1, .cons _ t => RelDs.drop n t
theorem RelDs.set : ∀ {ds : List D} {vs : List V} {d : D} {v : V} (n : Nat), RelDs T ρ H ds vs → RelD T ρ H d v → RelDs T ρ H (ds.set n d) (vs.set n v)
  | _, _, _, _, _, .nil, _ => .nil
  | _, _, _, _, 0, .cons _ t, r => .cons r t
  | _, _, _, _, n + 1, .cons h t, r => .cons h (RelDs.set n t r)
theorem RelDs.reverse : ∀ {ds : List D} {vs : List V}, RelDs T ρ H ds vs → RelDs T ρ H ds.reverse vs.reverse
  | _, _, .nil => .nil
  | _, _, .cons h t => by
    rw [List.reverse_cons, List.reverse_cons]
    exact RelDs.append (RelDs.reverse t) (.cons h .nil)
theorem RelDs.dropLast {ds : List D} {vs : List V} (r : RelDs T ρ H ds vs) : RelDs T ρ H ds.dropLast vs.dropLast := by
  rw [List.dropLast_eq_take, List.dropLast_eq_take, r.length]
  exact r.take _
theorem RelDs.rep : ∀ {ds : List D} {vs : List V} (n : Nat), RelDs T ρ H ds vs → RelDs T ρ H (List.replicate n ds).flatten (List.replicate n vs).flatten
  | _, _, 0, _ => .nil
  | _, _, n + 1, r => by
    rw [List.replicate_succ, List.replicate_succ, List.flatten_cons, List.flatten_cons]
    exact r.append (RelDs.rep n r)

/-! ### keys -/
inductive KyR : Ky → Key → Prop
  | i (n : Int) : KyR (.i n) (.inl n)
  | s {l : List Nat} {x : Str} (h : x.cps.toList = l) : KyR (.s l) (.inr x)
theorem str_ext {x y : Str} (h : x.cps.toList = y.cps.toList) : x = y := by
  cases x; cases y; congr 1; exact Array.toList_inj.mp h
theorem KyR.eq_iff {k k' : Ky} {q q' : Key} (r : KyR k q) (r' : KyR k' q') : (k = k') ↔ (q = q') := by
  cases r with
  | i n =>
    cases r' with
    | i m => exact ⟨fun h => (by cases h; rfl), fun h => (by cases h; rfl)⟩
    | s h => exact ⟨fun h => (by cases h), fun h => (by cases h)⟩
  | s h =>
    cases r' with
    | i m => exact ⟨fun h => (by cases h), fun h => (by cases h)⟩
    | s h' =>
      subst h; subst h'
      exact ⟨fun e => (by rw [str_ext (Ky.s.inj e)]), fun e => (by cases e; rfl)⟩
theorem KyR.of {d : D} {v : V} {k : Ky} (r : RelD T ρ H d v) (h : d.ky = some k) : ∃ q, KyR k q ∧ v = kV q := by
  cases r with
  | int n => cases h; exact ⟨_, .i n, rfl⟩
  | str e => cases h; exact ⟨_, .s e, rfl⟩
  | _ => cases h
theorem KyR.rel {k : Ky} {q : Key} (r : KyR k q) : RelD T ρ H k.d (kV q) := by
  cases r with
  | i n => exact .int n
  | s h => exact .str h
inductive KVs (T : Tab) (ρ : List Addr) (H : Hp) : List (Ky × D) → List (Key × V) → Prop
  | nil : KVs T ρ H [] []
  | cons {k : Ky} {d : D} {l : List (Ky × D)} {q : Key} {v : V} {m : List (Key × V)} (hk : KyR k q) (hd : RelD T ρ H d v) (t : KVs T ρ H l m) : KVs T ρ H ((k, d) :: l) ((q, v) :: m)
theorem KVs.mono0 (p : ρ <+: ρ') (e : Ext0 H H') {l : List (Ky × D)} {m : List (Key × V)} (r : KVs T ρ H l m) : KVs T ρ' H' l m := by
  induction r with
  | nil => exact .nil
  | cons hk hd _ ih => exact .cons hk (hd.mono0 p e) ih
theorem KVs.mono (p : ρ <+: ρ') (e : Ext H H') {l : List (Ky × D)} {m : List (Key × V)} (r : KVs T ρ H l m) : KVs T ρ' H' l m := r.mono0 p e.e0
theorem KVs.length {l : List (Ky × D)} {m : List (Key × V)} (r : KVs T ρ H l m) : l.length = m.length := by
  induction r with
  | nil => rfl
  | cons _ _ _ ih => rw [List.length_cons, List.length_cons, ih]
/-- the value of a key -/
def getKd : List (Ky × D) → Ky → Option D
  | [], _ => none
  | (j, d) :: l, k => if j = k then some d else getKd l k
def repKd : List (Ky × D) → Ky → D → List (Ky × D)
  | [], _, _ => []
  | (j, d) :: l, k, e => (if j = k then (j, e) else (j, d)) :: repKd l k e
def putKd (l : List (Ky × D)) (k : Ky) (e : D) : List (Ky × D) := if (getKd l k).isSome then repKd l k e else l ++ [(k, e)]
def dropKd : List (Ky × D) → Ky → List (Ky × D)
  | [], _ => []
  | (j, d) :: l, k => if j = k then dropKd l k else (j, d) :: dropKd l k
theorem KVs.get {l : List (Ky × D)} {m : List (Key × V)} (r : KVs T ρ H l m) {k : Ky} {q : Key} (hk : KyR k q) :
    (∀ d, getKd l k = some d → ∃ v, valV m q = some v ∧ RelD T ρ H d v) ∧ (getKd l k = none → valV m q = none) := by
  induction r with
  | nil => exact ⟨fun d h => (by cases h), fun _ => rfl⟩
  | @cons j d l q' v m hj hd t ih =>
    by_cases e : j = k
    · have e' : q' = q := (hj.eq_iff hk).mp e
      unfold getKd
      rw [if_pos e, valV_pos e']
      exact ⟨fun d' h => (by cases h; exact ⟨v, rfl, hd⟩), fun h => (by cases h)⟩
    · have e' : ¬ q' = q := fun z => e ((hj.eq_iff hk).mpr z)
      unfold getKd
      rw [if_neg e, valV_neg e']
      exact ih
theorem KVs.some_iff {l : List (Ky × D)} {m : List (Key × V)} (r : KVs T ρ H l m) {k : Ky} {q : Key} (hk : KyR k q) : (valV m q).isSome = (getKd l k).isSome := by
  cases e : getKd l k with
  | none => rw [(r.get hk).2 e]; rfl
  | some d => obtain ⟨v, h, _⟩ := (r.get hk).1 d e; rw [h]; rfl
theorem KVs.rep {l : List (Ky × D)} {m : List (Key × V)} (r : KVs T ρ H l m) {k : Ky} {q : Key} (hk : KyR k q) {d : D} {v : V} (hd : RelD T ρ H d v) :
    KVs T ρ H (repKd l k d) (m.map fun kv => if kv.1 = q then (kv.1, v) else kv) := by
  induction r with
  | nil => exact .nil
  | @cons j e l q' v' m hj he t ih =>
    unfold repKd
    rw [List.map_cons]
    by_cases z : j = k
    · rw [if_pos z, if_pos ((hj.eq_iff hk).mp z)]
      exact .cons hj hd ih
    · rw [if_neg z, if_neg (fun y => z ((hj.eq_iff hk).mpr y))]
      exact .cons hj he ih
theorem KVs.snoc {l : List (Ky × D)} {m : List (Key × V)} (r : KVs T ρ H l m) {k : Ky} {q : Key} (hk : KyR k q) {d : D} {v : V} (hd : RelD T ρ H d v) : KVs T ρ H (l ++ [(k, d)]) (m ++ [(q, v)]) := by
  induction r with
  | nil => exact .cons hk hd .nil
  | cons hj he _ ih => exact .cons hj he ih
theorem KVs.put {l : List (Ky × D)} {m : List (Key × V)} (r : KVs T ρ H l m) {k : Ky} {q : Key} (hk : KyR k q) {d : D} {v : V} (hd : RelD T ρ H d v) : KVs T ρ H (putKd l k d) (putK m q v) := by
  unfold putKd putK
  rw [valV_any, r.some_iff hk]
  split
  · exact r.rep hk hd
  · exact r.snoc hk hd
theorem KVs.drop {l : List (Ky × D)} {m : List (Key × V)} (r : KVs T ρ H l m) {k : Ky} {q : Key} (hk : KyR k q) : KVs T ρ H (dropKd l k) (dropK m q) := by
  induction r with
  | nil => exact .nil
  | @cons j e l q' v' m hj he t ih =>
    unfold dropKd
    by_cases z : j = k
    · have z' := (hj.eq_iff hk).mp z
      rw [if_pos z, dropK_pos z']
      exact ih
    · have z' : ¬ q' = q := fun y => z ((hj.eq_iff hk).mpr y)
      rw [if_neg z, dropK_neg z']
      exact .cons hj he ih

/-! ### the heap -/
inductive OkO (T : Tab) (ρ : List Addr) (H : Hp) (a : Addr) : O → Prop
  | lst {xs : List D} {vs : List V} (h : H a = some (.lst vs)) (r : RelDs T ρ H xs vs) : OkO T ρ H a (.lst xs)
  | fro {xs : List D} {vs : List V} {o : Obj} (h : H a = some (.frz o (.lst vs))) (r : RelDs T ρ H xs vs) : OkO T ρ H a (.fro xs)
  | dct {kvs : List (Ky × D)} {m : List (Key × V)} (h : H a = some (.dK m)) (r : KVs T ρ H kvs m) : OkO T ρ H a (.dct false kvs)
  | dcl {kvs : List (Ky × D)} {m : List (Key × V)} {o : Obj} (h : H a = some (.frz o (.dK m))) (r : KVs T ρ H kvs m) : OkO T ρ H a (.dct true kvs)
structure Rp (T : Tab) (ρ : List Addr) (h : Hh) (H : Hp) : Prop where
  len : ρ.length = h.length
  nd : ρ.Nodup
  ok : ∀ (i : Nat) (a : Addr) (o : O), ρ[i]? = some a → h[i]? = some o → OkO T ρ H a o
theorem OkO.mono0 (p : ρ <+: ρ') (e : Ext0 H H') {a : Addr} {o : O} (k : H' a = H a) (r : OkO T ρ H a o) : OkO T ρ' H' a o := by
  cases r with
  | lst h r => exact .lst (k.trans h) (r.mono0 p e)
  | fro h r => exact .fro (k.trans h) (r.mono0 p e)
  | dct h r => exact .dct (k.trans h) (r.mono0 p e)
  | dcl h r => exact .dcl (k.trans h) (r.mono0 p e)
theorem OkO.mono (p : ρ <+: ρ') (e : Ext H H') {a : Addr} {o : O} (k : H' a = H a) (r : OkO T ρ H a o) : OkO T ρ' H' a o := r.mono0 p e.e0 k
theorem OkO.chg {a : Addr} {o : O} (r : OkO T ρ H a o) : ∃ u, H a = some u ∧ Chg u := by
  cases r with
  | lst h _ => exact ⟨_, h, trivial⟩
  | fro h _ => exact ⟨_, h, trivial⟩
  | dct h _ => exact ⟨_, h, trivial⟩
  | dcl h _ => exact ⟨_, h, trivial⟩
theorem Rp.at_ {h : Hh} (R : Rp T ρ h H) {i : Nat} {o : O} (e : h[i]? = some o) : ∃ a, ρ[i]? = some a ∧ OkO T ρ H a o := by
  have hi : i < ρ.length := by rw [R.len]; exact (List.getElem?_eq_some_iff.mp e).1
  exact ⟨ρ[i], List.getElem?_eq_getElem hi, R.ok i _ o (List.getElem?_eq_getElem hi) e⟩
theorem Rp.obj {h : Hh} (R : Rp T ρ h H) {i : Nat} {a : Addr} (e : ρ[i]? = some a) : ∃ o, h[i]? = some o ∧ OkO T ρ H a o := by
  have hi : i < h.length := by rw [← R.len]; exact (List.getElem?_eq_some_iff.mp e).1
  exact ⟨h[i], List.getElem?_eq_getElem hi, R.ok i a _ e (List.getElem?_eq_getElem hi)⟩
/-- a new object of the heap -/
theorem Rp.alloc {h : Hh} (R : Rp T ρ h H) {p : Addr} (hp : H p = none) {u : HO} {o : O} (k : OkO T (ρ ++ [p]) (upd H p u) p o) : Rp T (ρ ++ [p]) (h ++ [o]) (upd H p u) where
  len := by rw [List.length_append, List.length_append, R.len]; rfl
  nd := by
    rw [List.nodup_append]
    refine ⟨R.nd, by simp, fun a ha b hb e => ?_⟩
    rw [List.mem_singleton] at hb
    subst hb; subst e
    obtain ⟨i, hi⟩ := List.getElem?_of_mem ha
    obtain ⟨o', _, q⟩ := R.obj hi
    obtain ⟨v, hv, _⟩ := q.chg
    rw [hp] at hv; cases hv
  ok := fun i a o' ha ho => by
    by_cases hi : i < ρ.length
    · rw [List.getElem?_append_left hi] at ha
      rw [List.getElem?_append_left (by rw [← R.len]; exact hi)] at ho
      have q := R.ok i a o' ha ho
      have hne : a ≠ p := by
        obtain ⟨v, hv, _⟩ := q.chg
        exact ne_of_none hv hp
      exact q.mono ⟨[p], rfl⟩ (Ext.new hp) (upd_ne hne)
    · have h1 : i = ρ.length := by
        have := (List.getElem?_eq_some_iff.mp ha).1
        rw [List.length_append, List.length_singleton] at this
        omega
      subst h1
      rw [List.getElem?_append_right (Nat.le_refl _), Nat.sub_self] at ha
      rw [R.len, List.getElem?_append_right (Nat.le_refl _), Nat.sub_self] at ho
      cases ha; cases ho
      exact k
/-- a new object that is no place of the heap (a tuple, an exception) -/
theorem Rp.other {h : Hh} (R : Rp T ρ h H) {p : Addr} (hp : H p = none) {u : HO} : Rp T ρ h (upd H p u) where
  len := R.len
  nd := R.nd
  ok := fun i a o' ha ho => by
    have q := R.ok i a o' ha ho
    have hne : a ≠ p := by
      obtain ⟨v, hv, _⟩ := q.chg
      exact ne_of_none hv hp
    exact q.mono (List.prefix_refl _) (Ext.new hp) (upd_ne hne)
/-- an object of the heap is changed -/
theorem Rp.store0 {h : Hh} (R : Rp T ρ h H) {i : Nat} {a : Addr} (ha : ρ[i]? = some a) {u : HO} (hx : Ext0 H (upd H a u)) {o : O} (k : OkO T ρ (upd H a u) a o) : Rp T ρ (h.set i o) (upd H a u) where
  len := by rw [List.length_set]; exact R.len
  nd := R.nd
  ok := fun j b o' hb ho => by
    by_cases e : j = i
    · subst e
      have hj : j < h.length := by rw [← R.len]; exact (List.getElem?_eq_some_iff.mp ha).1
      rw [List.getElem?_set_self hj] at ho
      rw [ha] at hb
      cases hb; cases ho
      exact k
    · rw [List.getElem?_set_ne (fun z => e z.symm)] at ho
      have q := R.ok j b o' hb ho
      have hne : b ≠ a := fun z => by
        subst z
        have h1 : j < ρ.length := (List.getElem?_eq_some_iff.mp hb).1
        have h2 : i < ρ.length := (List.getElem?_eq_some_iff.mp ha).1
        have e1 : ρ[j] = b := (List.getElem?_eq_some_iff.mp hb).2
        have e2 : ρ[i] = b := (List.getElem?_eq_some_iff.mp ha).2
        exact e ((List.getElem_inj R.nd).mp (e1.trans e2.symm))
      exact q.mono0 (List.prefix_refl _) hx (upd_ne hne)
theorem Rp.store {h : Hh} (R : Rp T ρ h H) {i : Nat} {a : Addr} (ha : ρ[i]? = some a) {u v : HO} (hv : H a = some v) (hc : Wri v) {o : O} (k : OkO T ρ (upd H a u) a o) : Rp T ρ (h.set i o) (upd H a u) := R.store0 ha (Ext.chg hv hc).e0 k
end
end Mi

set_option Elab.async false
set_option linter.all false
set_option maxRecDepth 100000
set_option maxHeartbeats 1000000
/-! Mi: what the layer's judgements say over plain data: lifts; operations on values. -/
namespace Mi
open PySem PySem.Spec PyProof.Rows L2

abbrev PQ := D → Hh → Prop
abbrev PX := Nat → List D → Hh → Prop
abbrev Sl := List (Option D)

def RelS (T : Tab) (ρ : List Addr) (H : Hp) (τ : Sl) (σ : L2.St) : Prop := τ.length = σ.length ∧ ∀ (i : Nat) d, τ[i]? = some (some d) → ∃ v, σ[i]? = some (some v) ∧ RelD T ρ H d v
def RelX (T : Tab) (ρ : List Addr) (H : Hp) (c : Nat) (fs : List D) (cls : Value) (d : Option Addr) : Prop :=
  cls = .ref (T.xa c) ∧ ((fs = [] ∧ d = none) ∨ ∃ dx vs, d = some dx ∧ H dx = some (.xd ((T.xf c).zip vs)) ∧ (T.xf c).length = vs.length ∧ RelDs T ρ H fs vs)

/-- what stands behind a step -/
structure Aft (T : Tab) (ρ : List Addr) (H : Hp) (ρ' : List Addr) (h' : Hh) (H' : Hp) : Prop where
  pre : ρ <+: ρ'
  ext : Ext H H'
  rp : Rp T ρ' h' H'
section
variable {T : Tab} {ρ ρ' ρ'' : List Addr} {H H' H'' : Hp} {h h' h'' : Hh}
theorem Aft.refl (R : Rp T ρ h H) : Aft T ρ H ρ h H := ⟨List.prefix_refl _, Ext.refl _, R⟩
theorem Aft.trans (a : Aft T ρ H ρ' h' H') (b : Aft T ρ' H' ρ'' h'' H'') : Aft T ρ H ρ'' h'' H'' := ⟨a.pre.trans b.pre, a.ext.trans b.ext, b.rp⟩
theorem Aft.d (a : Aft T ρ H ρ' h' H') {d : D} {v : V} (r : RelD T ρ H d v) : RelD T ρ' H' d v := r.mono a.pre a.ext
theorem Aft.ds (a : Aft T ρ H ρ' h' H') {ds : List D} {vs : List V} (r : RelDs T ρ H ds vs) : RelDs T ρ' H' ds vs := r.mono a.pre a.ext
theorem Aft.s (a : Aft T ρ H ρ' h' H') {τ : Sl} {σ : L2.St} (r : RelS T ρ H τ σ) : RelS T ρ' H' τ σ := ⟨r.1, fun i d e => by
  obtain ⟨v, h1, h2⟩ := r.2 i d e
  exact ⟨v, h1, a.d h2⟩⟩
/-- a new list -/
theorem Aft.lst (R : Rp T ρ h H) {p : Addr} (hp : H p = none) {xs : List D} {vs : List V} (r : RelDs T ρ H xs vs) : Aft T ρ H (ρ ++ [p]) (h ++ [.lst xs]) (upd H p (.lst vs)) :=
  ⟨⟨[p], rfl⟩, Ext.new hp, R.alloc hp (.lst upd_same (r.mono ⟨[p], rfl⟩ (Ext.new hp)))⟩
theorem ref_new (R : Rp T ρ h H) {p : Addr} {H' : Hp} : RelD T (ρ ++ [p]) H' (.ref h.length) (.ref p) := by
  refine .ref ?_
  rw [← R.len, List.getElem?_append_right (Nat.le_refl _), Nat.sub_self]; rfl
/-- a new tuple -/
theorem Aft.tup (R : Rp T ρ h H) {p : Addr} (hp : H p = none) {u : HO} : Aft T ρ H ρ h (upd H p u) := ⟨List.prefix_refl _, Ext.new hp, R.other hp⟩
theorem tup_new {p : Addr} (hp : H p = none) {xs : List D} {vs : List V} (r : RelDs T ρ H xs vs) : RelD T ρ (upd H p (.tup vs)) (.tup xs) (.ref p) :=
  .tup upd_same (r.mono (List.prefix_refl _) (Ext.new hp))
theorem RelS.set {τ : Sl} {σ : L2.St} (r : RelS T ρ H τ σ) (i : Nat) {d : D} {v : V} (hd : RelD T ρ H d v) : RelS T ρ H (τ.set i (some d)) (σ.set i (some v)) := by
  refine ⟨by rw [List.length_set, List.length_set]; exact r.1, fun j e hj => ?_⟩
  by_cases q : i = j
  · subst q
    have hi : i < τ.length := by
      have := (List.getElem?_eq_some_iff.mp hj).1
      rwa [List.length_set] at this
    rw [List.getElem?_set_self hi] at hj
    cases hj
    exact ⟨v, List.getElem?_set_self (by rw [← r.1]; exact hi), hd⟩
  · rw [List.getElem?_set_ne q] at hj
    rw [List.getElem?_set_ne q]
    exact r.2 j e hj
theorem RelS.clear {τ : Sl} {σ : L2.St} (r : RelS T ρ H τ σ) (i : Nat) : RelS T ρ H (τ.set i none) (σ.set i none) := by
  refine ⟨by rw [List.length_set, List.length_set]; exact r.1, fun j e hj => ?_⟩
  by_cases q : i = j
  · subst q
    have hi : i < τ.length := by
      have := (List.getElem?_eq_some_iff.mp hj).1
      rwa [List.length_set] at this
    rw [List.getElem?_set_self hi] at hj
    cases hj
  · rw [List.getElem?_set_ne q] at hj
    rw [List.getElem?_set_ne q]
    exact r.2 j e hj
end

/-! ### operations on values -/
abbrev S2 := Hh → D → D → Option (D × Hh)
abbrev SN := Hh → List D → Option (D × Hh)
/-- an operation's answer -/
def Ans (T : Tab) (ρ : List Addr) (H : Hp) (r : Option (D × Hh)) (Q : VK) : Prop := ∃ z h', r = some (z, h') ∧ ∀ ρ' H' v, Aft T ρ H ρ' h' H' → RelD T ρ' H' z v → Q v H'
def r2 (T : Tab) (f : S2) : R2 := fun x y H Q => ∃ ρ h d e, Rp T ρ h H ∧ RelD T ρ H d x ∧ RelD T ρ H e y ∧ Ans T ρ H (f h d e) Q
def rN (T : Tab) (f : SN) : List V → Hp → VK → Prop := fun xs H Q => ∃ ρ h ds, Rp T ρ h H ∧ RelDs T ρ H ds xs ∧ Ans T ρ H (f h ds) Q
def rM (T : Tab) (f : SN) : V → List V → Hp → VK → Prop := fun x xs H Q => ∃ ρ h d ds, Rp T ρ h H ∧ RelD T ρ H d x ∧ RelDs T ρ H ds xs ∧ Ans T ρ H (f h (d :: ds)) Q
section
variable {T : Tab} {ρ : List Addr} {H : Hp} {h : Hh} {Q : VK}
/-- an answer that is a value -/
theorem Ans.val (R : Rp T ρ h H) {z : D} {r : Option (D × Hh)} (a : Ans T ρ H r Q) (e : r = some (z, h)) {v : V} (rv : RelD T ρ H z v) : Q v H := by
  obtain ⟨z', h', e', q⟩ := a
  rw [e] at e'; cases e'
  exact q ρ H v (.refl R) rv
/-- .. that is a new list -/
theorem Ans.lst (R : Rp T ρ h H) {xs : List D} {r : Option (D × Hh)} (a : Ans T ρ H r Q) (e : r = some (.ref h.length, h ++ [.lst xs])) {vs : List V} (rv : RelDs T ρ H xs vs) : ∀ p, H p = none → Q (.ref p) (upd H p (.lst vs)) := fun p hp => by
  obtain ⟨z', h', e', q⟩ := a
  rw [e] at e'; cases e'
  exact q _ _ _ (.lst R hp rv) (ref_new R)
/-- .. that is a new tuple -/
theorem Ans.tup (R : Rp T ρ h H) {xs : List D} {r : Option (D × Hh)} (a : Ans T ρ H r Q) (e : r = some (.tup xs, h)) {vs : List V} (rv : RelDs T ρ H xs vs) : ∀ p, H p = none → Q (.ref p) (upd H p (.tup vs)) := fun p hp => by
  obtain ⟨z', h', e', q⟩ := a
  rw [e] at e'; cases e'
  exact q _ _ _ (.tup R hp) (tup_new hp rv)
theorem Ans.ex {r : Option (D × Hh)} (a : Ans T ρ H r Q) : ∃ z h', r = some (z, h') := by
  obtain ⟨z, h', e, _⟩ := a
  exact ⟨z, h', e⟩
/-- a list of the heap -/
theorem Rp.lst {i : Nat} {v : V} {xs : List D} (R : Rp T ρ h H) (r : RelD T ρ H (.ref i) v) (e : h[i]? = Option.some (.lst xs)) : ∃ a vs, v = .ref a ∧ ρ[i]? = Option.some a ∧ H a = Option.some (.lst vs) ∧ RelDs T ρ H xs vs := by
  cases r with
  | @ref _ a ha =>
    cases R.ok i a _ ha e with
    | lst h r => exact ⟨a, _, rfl, ha, h, r⟩
theorem Rp.dct {i : Nat} {v : V} {lk : Bool} {kvs : List (Ky × D)} (R : Rp T ρ h H) (r : RelD T ρ H (.ref i) v) (e : h[i]? = Option.some (.dct lk kvs)) :
    ∃ a m, v = .ref a ∧ ρ[i]? = Option.some a ∧ Rd H a (.dK m) ∧ KVs T ρ H kvs m ∧ (lk = false → H a = Option.some (.dK m)) := by
  cases r with
  | @ref _ a ha =>
    have k := R.ok i a _ ha e
    cases lk with
    | false =>
      cases k with
      | dct h r => exact ⟨a, _, rfl, ha, .inl h, r, fun _ => h⟩
    | true =>
      cases k with
      | dcl h r => exact ⟨a, _, rfl, ha, .inr ⟨_, h⟩, r, fun q => by cases q⟩
/-- what may be read as a list -/
def asL (h : Hh) : D → Option (List D)
  | .ref i => match h[i]? with
    | Option.some (.lst xs) => Option.some xs
    | Option.some (.fro xs) => Option.some xs
    | _ => Option.none
  | _ => Option.none
theorem Rp.asL {d : D} {v : V} {xs : List D} (R : Rp T ρ h H) (r : RelD T ρ H d v) (e : asL h d = Option.some xs) : ∃ a vs, v = .ref a ∧ SqL T.K H a vs ∧ RelDs T ρ H xs vs := by
  cases d with
  | ref i =>
    unfold Mi.asL at e
    cases r with
    | @ref _ a ha =>
      cases eo : h[i]? with
      | none => simp only [eo] at e; cases e
      | some o =>
        simp only [eo] at e
        have k := R.ok i a _ ha eo
        cases o with
        | lst ys =>
          cases e
          cases k with
          | lst h r => exact ⟨a, _, rfl, .inl (.inl h), r⟩
        | fro ys =>
          cases e
          cases k with
          | fro h r => exact ⟨a, _, rfl, .inl (.inr ⟨_, h⟩), r⟩
        | dct b ys => cases e
  | _ => cases e
theorem relT {xs : List D} {v : V} (r : RelD T ρ H (.tup xs) v) : ∃ a vs, v = .ref a ∧ H a = Option.some (.tup vs) ∧ RelDs T ρ H xs vs := by
  cases r with
  | tup h r => exact ⟨_, _, rfl, h, r⟩
theorem relI {i : Int} {v : V} (r : RelD T ρ H (.int i) v) : v = .int i := by cases r; rfl
theorem relB {i : Bool} {v : V} (r : RelD T ρ H (.bl i) v) : v = .bl i := by cases r; rfl
theorem relN {v : V} (r : RelD T ρ H .non v) : v = .non := by cases r; rfl
theorem relSt {l : List Nat} {v : V} (r : RelD T ρ H (.str l) v) : ∃ x : Str, v = .str x ∧ x.cps.toList = l := by
  cases r with
  | str h => exact ⟨_, rfl, h⟩
theorem str_len {x : Str} {l : List Nat} (h : x.cps.toList = l) : x.length = l.length := by
  rw [← h]; exact Array.length_toList.symm
theorem append_cps {x y : Str} : (x ++ y).cps.toList = x.cps.toList ++ y.cps.toList := Array.toList_append
end

/-! ### +, -, *, //, % -/
def addS : S2 := fun h x y => match x, y with
  | .int i, .int j => some (.int (i + j), h)
  | .str l, .str m => if l.length + m.length ≤ sizeLine then some (.str (l ++ m), h) else none
  | .tup xs, .tup ys => if xs.length + ys.length ≤ sizeLine then some (.tup (xs ++ ys), h) else none
  | .ref i, .ref j => (match h[i]?, h[j]? with
    | some (.lst xs), some (.lst ys) => if xs.length + ys.length ≤ sizeLine then some (.ref h.length, h ++ [.lst (xs ++ ys)]) else none
    | _, _ => none)
  | _, _ => none
def subS : S2 := fun h x y => match x, y with
  | .int i, .int j => some (.int (i - j), h)
  | _, _ => none
def mulS : S2 := fun h x y => match x, y with
  | .int i, .int j => if i.natAbs.log2 + j.natAbs.log2 < 1000000 then some (.int (i * j), h) else none
  | .str l, .int k => if l ≠ [] ∧ 2 ≤ k ∧ k ≤ 1000 ∧ l.length ≤ 1000 then some (.str (List.replicate k.toNat l).flatten, h) else none
  | .tup xs, .int k => if -1000 ≤ k ∧ k ≤ 1000 ∧ xs.length ≤ 1000 then some (.tup (List.replicate k.toNat xs).flatten, h) else none
  | .ref i, .int k => (match h[i]? with
    | some (.lst xs) => if -(2 ^ 63) ≤ k ∧ k < 2 ^ 63 ∧ xs.length * k.toNat ≤ sizeLine then some (.ref h.length, h ++ [.lst (List.replicate k.toNat xs).flatten]) else none
    | _ => none)
  | _, _ => none
def powS : S2 := fun h x y => match x, y with
  | .int i, .int j => if 0 ≤ j ∧ ((i.natAbs.log2 + 1 : Nat) : Int) * j ≤ 2 ^ 27 then some (.int (i ^ j.toNat), h) else none
  | _, _ => none
def divS : S2 := fun h x y => match x, y with
  | .int i, .int j => if 0 < j ∧ j.natAbs.log2 < 9000 then some (.int (i / j), h) else none
  | _, _ => none
def modS : S2 := fun h x y => match x, y with
  | .int i, .int j => if 0 < j then some (.int (i % j), h) else none
  | _, _ => none
section
variable {X : Cx} {T : Tab}
theorem op_addS (hK : X.K = T.K) : OpR X (binaryOp .Add) (r2 T addS) := by
  intro pins s σ H x y v u Q I rx ry hr
  obtain ⟨ρ, h, d, e, R, rd, re, a⟩ := hr
  obtain ⟨z, h1, ez⟩ := a.ex
  unfold addS at ez a
  split at ez
  · next i j =>
    cases relI rd; cases relI re
    exact op_add pins s σ H _ _ v u Q I rx ry ⟨i, j, rfl, rfl, a.val R rfl (.int _)⟩
  · next l m =>
    obtain ⟨x', rfl, e1⟩ := relSt rd
    obtain ⟨y', rfl, e2⟩ := relSt re
    split at ez
    · next hl =>
      refine op_add_str pins s σ H _ _ v u Q I rx ry ⟨x', y', rfl, rfl, by rw [str_len e1, str_len e2]; exact hl, ?_⟩
      dsimp only at a
      rw [if_pos hl] at a
      exact a.val R rfl (.str (by rw [append_cps, e1, e2]))
    · cases ez
  · next xs ys =>
    obtain ⟨a1, vs, rfl, h2, r2⟩ := relT rd
    obtain ⟨a3, ws, rfl, h4, r4⟩ := relT re
    split at ez
    · next hl =>
      dsimp only at a
      rw [if_pos hl] at a
      refine op_catA pins s σ H _ _ v u Q I rx ry ⟨a1, a3, vs, ws, rfl, rfl, .of h2, .of h4, by rw [← r2.length, ← r4.length]; exact hl, fun q => ?_, fun _ q => ?_, fun _ _ => a.tup R rfl (r2.append r4)⟩
      · subst q
        cases r2
        exact a.val R rfl (.tup h4 r4)
      · subst q
        cases r4
        rw [List.append_nil] at a
        exact a.val R rfl (.tup h2 r2)
    · cases ez
  · next i j =>
    split at ez
    · next xs ys e1 e2 =>
      obtain ⟨p, vs, rfl, _, h2, r2⟩ := R.lst rd e1
      obtain ⟨q, ws, rfl, _, h4, r4⟩ := R.lst re e2
      split at ez
      · next hl =>
        dsimp only at a
        rw [e1, e2] at a
        dsimp only at a
        rw [if_pos hl] at a
        exact op_cat pins s σ H _ _ v u Q I rx ry ⟨p, q, vs, ws, rfl, rfl, h2, h4, by rw [← r2.length, ← r4.length]; exact hl, a.lst R rfl (r2.append r4)⟩
      · cases ez
    · cases ez
  · cases ez
theorem op_subS : OpR X (binaryOp .Sub) (r2 T subS) := by
  intro pins s σ H x y v u Q I rx ry hr
  obtain ⟨ρ, h, d, e, R, rd, re, a⟩ := hr
  obtain ⟨z, h1, ez⟩ := a.ex
  unfold subS at ez a
  split at ez
  · next i j =>
    cases relI rd; cases relI re
    exact op_sub pins s σ H _ _ v u Q I rx ry ⟨i, j, rfl, rfl, a.val R rfl (.int _)⟩
  · cases ez
theorem op_mulS (hK : X.K = T.K) : OpR X (binaryOp .Mult) (r2 T mulS) := by
  intro pins s σ H x y v u Q I rx ry hr
  obtain ⟨ρ, h, d, e, R, rd, re, a⟩ := hr
  obtain ⟨z, h1, ez⟩ := a.ex
  unfold mulS at ez a
  split at ez
  · next i j =>
    cases relI rd; cases relI re
    split at ez
    · next hc =>
      dsimp only at a
      rw [if_pos hc] at a
      exact op_mulW pins s σ H _ _ v u Q I rx ry ⟨i, j, rfl, rfl, hc, a.val R rfl (.int _)⟩
    · cases ez
  · next l k =>
    obtain ⟨z, rfl, e1⟩ := relSt rd
    cases relI re
    split at ez
    · next hc =>
      dsimp only at a
      rw [if_pos hc] at a
      obtain ⟨c1, c2, c3, c4⟩ := hc
      obtain ⟨t, rfl⟩ := rx
      obtain ⟨t2, rfl⟩ := ry
      have hzl : z.length = l.length := str_len e1
      have hl0 : l.length ≠ 0 := fun q => c1 (List.length_eq_zero_iff.mp q)
      have g : (k == 1 || z.length == 0) = false := by
        rw [Bool.or_eq_false_iff]
        exact ⟨beq_eq_false_iff_ne.mpr (by omega), beq_eq_false_iff_ne.mpr (by rw [hzl]; exact hl0)⟩
      refine P.mul_str (by rw [decide_eq_false (by omega), decide_eq_false (by omega)]; rfl) (fun _ _ hb => ?_) (fun _ _ => ?_) ?_
      · have hz1 : (z.length : Int) ≤ 1000 := by rw [hzl]; exact_mod_cast c4
        have : (1000 : Int) ≤ (2 ^ 63 - 1) / k := Int.le_ediv_of_mul_le (by omega) (by omega)
        omega
      · have : z.length * k.toNat ≤ 1000000 := by
          rw [hzl]
          exact Nat.le_trans (Nat.mul_le_mul c4 (show k.toNat ≤ 1000 by omega)) (by decide)
        exact decide_eq_false (by rw [sizeLine_eq]; omega)
      · rw [if_neg (by omega), g]
        have er : (⟨(List.replicate k.toNat z.cps).foldl (· ++ ·) #[]⟩ : Str).cps.toList = (List.replicate k.toNat l).flatten := by
          have gen : ∀ (n : Nat) (acc : Array Nat), ((List.replicate n z.cps).foldl (· ++ ·) acc).toList = acc.toList ++ (List.replicate n l).flatten := fun n => by
            induction n with
            | zero => intro acc; simp
            | succ n ih =>
              intro acc
              rw [List.replicate_succ, List.foldl_cons, ih, List.replicate_succ, List.flatten_cons, Array.toList_append, e1, List.append_assoc]
          have := gen k.toNat #[]
          simpa using this
        exact ⟨by
          show ((List.replicate k.toNat z.cps).foldl (· ++ ·) #[]).size ≤ sizeLine
          have e2 : ((List.replicate k.toNat z.cps).foldl (· ++ ·) #[]).size = (List.replicate k.toNat l).flatten.length := by rw [← er]; simp
          rw [e2, List.length_flatten, List.map_replicate, List.sum_replicate_nat, sizeLine_eq]
          exact Nat.le_trans (Nat.mul_le_mul (show k.toNat ≤ 1000 by omega) c4) (by decide), ⟨.str _, H, I.tok _, ⟨_, rfl⟩, a.val R rfl (.str er)⟩⟩
    · cases ez
  · next xs k =>
    obtain ⟨a1, vs, rfl, h2, r2⟩ := relT rd
    cases relI re
    split at ez
    · next hc =>
      dsimp only at a
      rw [if_pos hc] at a
      obtain ⟨c1, c3, c4⟩ := hc
      by_cases e0 : xs = []
      · subst e0
        cases r2
        have er : (List.replicate k.toNat ([] : List D)).flatten = [] := by simp
        rw [er] at a
        exact op_repS pins s σ H _ _ v u Q I rx ry ⟨a1, k, [], rfl, rfl, .of h2, c1, c3, .inl ⟨.inl rfl, a.val R rfl (.tup h2 .nil)⟩⟩
      have ne : vs ≠ [] := fun q => e0 (by subst q; cases r2; rfl)
      by_cases e2 : 2 ≤ k
      · exact op_repT pins s σ H _ _ v u Q I rx ry ⟨a1, k, vs, rfl, rfl, .of h2, ne, e2, c3, by rw [← r2.length]; exact c4, a.tup R rfl (r2.rep _)⟩
      by_cases e1 : k = 1
      · subst e1
        have er : (List.replicate (1 : Int).toNat xs).flatten = xs := by simp
        rw [er] at a
        exact op_repS pins s σ H _ _ v u Q I rx ry ⟨a1, 1, vs, rfl, rfl, .of h2, c1, c3, .inl ⟨.inr rfl, a.val R rfl (.tup h2 r2)⟩⟩
      · have ez : k.toNat = 0 := by omega
        rw [ez] at a
        exact op_repS pins s σ H _ _ v u Q I rx ry ⟨a1, k, vs, rfl, rfl, .of h2, c1, c3, .inr ⟨ne, by omega, a.tup R rfl .nil⟩⟩
    · cases ez
  · next i k =>
    cases relI re
    split at ez
    · next xs e1 =>
      obtain ⟨p, vs, rfl, _, h2, r2⟩ := R.lst rd e1
      split at ez
      · next hc =>
        dsimp only at a
        rw [e1] at a
        dsimp only at a
        rw [if_pos hc] at a
        obtain ⟨c1, c2, c3⟩ := hc
        exact op_rep pins s σ H _ _ v u Q I rx ry ⟨p, k, vs, rfl, rfl, h2, c1, c2, by rw [← r2.length]; exact c3, a.lst R rfl (r2.rep _)⟩
      · cases ez
    · cases ez
  · cases ez
theorem op_powS : OpR X (binaryOp .Pow) (r2 T powS) := by
  intro pins s σ H x y v u Q I rx ry hr
  obtain ⟨ρ, h, d, e, R, rd, re, a⟩ := hr
  obtain ⟨z, h1, ez⟩ := a.ex
  unfold powS at ez a
  split at ez
  · next i j =>
    cases relI rd; cases relI re
    split at ez
    · next hc =>
      dsimp only at a
      rw [if_pos hc] at a
      obtain ⟨t, rfl⟩ := rx
      obtain ⟨t2, rfl⟩ := ry
      have hb : Builtin.Int.intBits i ≤ i.natAbs.log2 + 1 := by
        unfold Builtin.Int.intBits
        split <;> omega
      have hb2 : ((Builtin.Int.intBits i : Nat) : Int) * j ≤ ((i.natAbs.log2 + 1 : Nat) : Int) * j := Int.mul_le_mul_of_nonneg_right (by exact_mod_cast hb) hc.1
      exact pow_int hc.1 (Int.le_trans hb2 hc.2) ⟨.int _, H, I.tok _, ⟨_, rfl⟩, a.val R rfl (.int _)⟩
    · cases ez
  · cases ez
theorem op_divS : OpR X (binaryOp .FloorDiv) (r2 T divS) := by
  intro pins s σ H x y v u Q I rx ry hr
  obtain ⟨ρ, h, d, e, R, rd, re, a⟩ := hr
  obtain ⟨z, h1, ez⟩ := a.ex
  unfold divS at ez a
  split at ez
  · next i j =>
    cases relI rd; cases relI re
    split at ez
    · next hc =>
      dsimp only at a
      rw [if_pos hc] at a
      exact op_fdivW pins s σ H _ _ v u Q I rx ry ⟨i, j, rfl, rfl, hc, a.val R rfl (.int _)⟩
    · cases ez
  · cases ez
theorem op_modS : OpR X (binaryOp .Mod) (r2 T modS) := by
  intro pins s σ H x y v u Q I rx ry hr
  obtain ⟨ρ, h, d, e, R, rd, re, a⟩ := hr
  obtain ⟨z, h1, ez⟩ := a.ex
  unfold modS at ez a
  split at ez
  · next i j =>
    cases relI rd; cases relI re
    split at ez
    · next hc =>
      dsimp only at a
      rw [if_pos hc] at a
      exact op_mod pins s σ H _ _ v u Q I rx ry ⟨i, j, rfl, rfl, hc, a.val R rfl (.int _)⟩
    · cases ez
  · cases ez
end
end Mi

set_option Elab.async false
set_option linter.all false
set_option maxRecDepth 100000
set_option maxHeartbeats 1000000
/-! Mi: == of a dict and what is none. -/
namespace Mi
open PySem PySem.Spec PyProof.Rows PySem.SeqAt PySem.MeetsSeq
section
variable {prog : Program} {w : World} {A : Around} {E : Value → Shared → Prop} {s : Shared}
theorem dict_declines {l : Addr} {b : Value} {Tb : String} {Q : Value → Shared → Prop} (hl : s.TypeIs (.ref l) "dict") (hb : s.TypeIs b Tb) (hs : isSubtype (.type Tb) (.type "dict") = pure false) (h : Q Value.notImplemented s) :
    wpAny (model prog w) A (call (.builtin "dict.__eq__") [.ref l, b]) Q E s := by
  refine wpAny_call_entry PySem.F.slot_dict_eq hl PySem.F.entry_dict_eq ?_ (PySem.F.args_dict_eq_2 _ _)
  show wpAny _ _ (Builtin.Dict.dictSlotArgs "__eq__" ⟨[.ref l, b], []⟩ >>= _) _ _ s
  refine wpAny_bind ?_
  unfold Builtin.Dict.dictSlotArgs
  refine wpAny_bind (wpAny_notOrdered_dict hl ?_)
  show wpAny _ _ (pure (Value.ref l, b)) _ _ s
  refine wpAny_pure ?_
  refine wpAny_bind (wpAny_isInstance (T := Tb) hb hs ?_)
  simp only [Bool.not_false, if_true]
  exact wpAny_bind (wpAny_rule (wpAny_pure ⟨_, rfl, h⟩))
theorem dict_declines_ne {l : Addr} {b : Value} {Tb : String} {Q : Value → Shared → Prop} (hl : s.TypeIs (.ref l) "dict") (hb : s.TypeIs b Tb) (hs : isSubtype (.type Tb) (.type "dict") = pure false) (h : Q Value.notImplemented s) :
    wpAny (model prog w) A (call (.builtin "dict.__ne__") [.ref l, b]) Q E s := by
  refine wpAny_call_entry PySem.F.slot_dict_ne hl PySem.F.entry_dict_ne ?_ (PySem.F.args_dict_ne_2 _ _)
  show wpAny _ _ (Builtin.Dict.dictSlotArgs "__ne__" ⟨[.ref l, b], []⟩ >>= _) _ _ s
  refine wpAny_bind ?_
  unfold Builtin.Dict.dictSlotArgs
  refine wpAny_bind (wpAny_notOrdered_dict hl ?_)
  show wpAny _ _ (pure (Value.ref l, b)) _ _ s
  refine wpAny_pure ?_
  refine wpAny_bind (wpAny_isInstance (T := Tb) hb hs ?_)
  simp only [Bool.not_false, if_true]
  exact wpAny_bind (wpAny_rule (wpAny_pure ⟨_, rfl, h⟩))
end
theorem str_eq_declines_dict (b : Str) (u : Tok) (l : Addr) (es : Array DictEntry) (n : Nat) (dd : Option Addr) (sl : Array (Option Value)) :
    Meets (Builtin.«str.__eq__» ⟨[.str b u, .ref l], []⟩) (fun _ R s => s.heap.get? l = some { cls := .type "dict", dict := dd, data := .dict es n, slots := sl } ∧ R (.ok (.ret .notImplemented)) s) :=
  .of_wp fun prog w A R s h => by obtain ⟨hp, g, d, tk, os⟩ := s; obtain ⟨hl, h⟩ := h; wp_walk using wpAny_loadPart' hl, wpAny_load hl; exact ⟨_, rfl, h⟩
theorem str_ne_declines_dict (b : Str) (u : Tok) (l : Addr) (es : Array DictEntry) (n : Nat) (dd : Option Addr) (sl : Array (Option Value)) :
    Meets (Builtin.«str.__ne__» ⟨[.str b u, .ref l], []⟩) (fun _ R s => s.heap.get? l = some { cls := .type "dict", dict := dd, data := .dict es n, slots := sl } ∧ R (.ok (.ret .notImplemented)) s) :=
  .of_wp fun prog w A R s h => by obtain ⟨hp, g, d, tk, os⟩ := s; obtain ⟨hl, h⟩ := h; wp_walk using wpAny_loadPart' hl, wpAny_load hl; exact ⟨_, rfl, h⟩
section
variable {A : Around} {s : Shared}
/-- a plain dict's object -/
def IsDct (h : Heap) (l : Addr) : Prop := ∃ es n dd sl, h.get? l = some { cls := .type "dict", dict := dd, data := .dict es n, slots := sl }
theorem RcAt.dict_none {l : Addr} (hl : IsDct s.heap l) (hu : A.units < cLine) : RcAt A s (.ref l) .none false := fun prog w E Q h => by
  obtain ⟨es, n, dd, sl, ho⟩ := hl
  exact rc_eq_decline_or (k := false) ⟨_, ho, rfl⟩ rfl (by decide) PySem.F.sub_NoneType_dict PySem.F.slot_dict_eq PySem.F.slot_NoneType_eq_refl
    (fun _ hq => dict_declines ⟨_, ho, rfl⟩ rfl PySem.F.sub_NoneType_dict hq)
    (fun _ hq => call_gives PySem.F.slot_NoneType_eq_refl rfl PySem.F.entry_NoneType_eq (PySem.F.args_NoneType_eq_2 _ _) (NoneType___eq___none_ref_0 l) hq)
    (fun _ hq => wpAny_of_eq (rfl : isSame (.ref l) .none = pure false) hq) (.inr hu) h
theorem RcNeAt.dict_none {l : Addr} (hl : IsDct s.heap l) (hu : A.units < cLine) : RcNeAt A s (.ref l) .none true := fun prog w E Q h => by
  obtain ⟨es, n, dd, sl, ho⟩ := hl
  exact rc_ne_decline_or (k := false) ⟨_, ho, rfl⟩ rfl (by decide) PySem.F.sub_NoneType_dict PySem.F.slot_dict_ne PySem.F.slot_NoneType_ne_refl
    (fun _ hq => dict_declines_ne ⟨_, ho, rfl⟩ rfl PySem.F.sub_NoneType_dict hq)
    (fun _ hq => call_gives PySem.F.slot_NoneType_ne_refl rfl PySem.F.entry_NoneType_ne (PySem.F.args_NoneType_ne_2 _ _) (NoneType___ne___none_ref_0 l) hq)
    (fun _ hq => wpAny_of_eq (rfl : isSame (.ref l) .none = pure false) hq) (.inr hu) h
theorem RcAt.none_dict {l : Addr} (hl : IsDct s.heap l) (hu : A.units < cLine) : RcAt A s .none (.ref l) false := fun prog w E Q h => by
  obtain ⟨es, n, dd, sl, ho⟩ := hl
  exact rc_eq_decline_or (k := false) rfl ⟨_, ho, rfl⟩ (by decide) PySem.F.sub_dict_NoneType PySem.F.slot_NoneType_eq PySem.F.slot_dict_eq_refl
    (fun _ hq => call_gives PySem.F.slot_NoneType_eq rfl PySem.F.entry_NoneType_eq (PySem.F.args_NoneType_eq_2 _ _) (NoneType___eq___none_ref_0 l) hq)
    (fun _ hq => dict_declines ⟨_, ho, rfl⟩ rfl PySem.F.sub_NoneType_dict hq)
    (fun _ hq => wpAny_of_eq (rfl : isSame .none (.ref l) = pure false) hq) (.inr hu) h
theorem RcNeAt.none_dict {l : Addr} (hl : IsDct s.heap l) (hu : A.units < cLine) : RcNeAt A s .none (.ref l) true := fun prog w E Q h => by
  obtain ⟨es, n, dd, sl, ho⟩ := hl
  exact rc_ne_decline_or (k := false) rfl ⟨_, ho, rfl⟩ (by decide) PySem.F.sub_dict_NoneType PySem.F.slot_NoneType_ne PySem.F.slot_dict_ne_refl
    (fun _ hq => call_gives PySem.F.slot_NoneType_ne rfl PySem.F.entry_NoneType_ne (PySem.F.args_NoneType_ne_2 _ _) (NoneType___ne___none_ref_0 l) hq)
    (fun _ hq => dict_declines_ne ⟨_, ho, rfl⟩ rfl PySem.F.sub_NoneType_dict hq)
    (fun _ hq => wpAny_of_eq (rfl : isSame .none (.ref l) = pure false) hq) (.inr hu) h
theorem RcAt.dict_str {l : Addr} (b : Str) (u : Tok) (hl : IsDct s.heap l) (hu : A.units < cLine) : RcAt A s (.ref l) (.str b u) false := fun prog w E Q h => by
  obtain ⟨es, n, dd, sl, ho⟩ := hl
  exact rc_eq_decline_or (k := false) ⟨_, ho, rfl⟩ (typeIs_str s b u) (by decide) PySem.F.sub_str_dict PySem.F.slot_dict_eq PySem.F.slot_str_eq_refl
    (fun _ hq => dict_declines ⟨_, ho, rfl⟩ (typeIs_str s b u) PySem.F.sub_str_dict hq)
    (fun _ hq => call_meets PySem.F.slot_str_eq_refl (typeIs_str s b u) PySem.F.entry_str_eq (PySem.F.args_str_eq_2 _ _) (str_eq_declines_dict b u l es n dd sl) ⟨ho, hq⟩)
    (fun _ hq => wpAny_of_eq (rfl : isSame (.ref l) (.str b u) = pure false) hq) (.inr hu) h
theorem RcNeAt.dict_str {l : Addr} (b : Str) (u : Tok) (hl : IsDct s.heap l) (hu : A.units < cLine) : RcNeAt A s (.ref l) (.str b u) true := fun prog w E Q h => by
  obtain ⟨es, n, dd, sl, ho⟩ := hl
  exact rc_ne_decline_or (k := false) ⟨_, ho, rfl⟩ (typeIs_str s b u) (by decide) PySem.F.sub_str_dict PySem.F.slot_dict_ne PySem.F.slot_str_ne_refl
    (fun _ hq => dict_declines_ne ⟨_, ho, rfl⟩ (typeIs_str s b u) PySem.F.sub_str_dict hq)
    (fun _ hq => call_meets PySem.F.slot_str_ne_refl (typeIs_str s b u) PySem.F.entry_str_ne (PySem.F.args_str_ne_2 _ _) (str_ne_declines_dict b u l es n dd sl) ⟨ho, hq⟩)
    (fun _ hq => wpAny_of_eq (rfl : isSame (.ref l) (.str b u) = pure false) hq) (.inr hu) h
theorem RcAt.str_dict {l : Addr} (b : Str) (u : Tok) (hl : IsDct s.heap l) (hu : A.units < cLine) : RcAt A s (.str b u) (.ref l) false := fun prog w E Q h => by
  obtain ⟨es, n, dd, sl, ho⟩ := hl
  exact rc_eq_decline_or (k := false) (typeIs_str s b u) ⟨_, ho, rfl⟩ (by decide) PySem.F.sub_dict_str PySem.F.slot_str_eq PySem.F.slot_dict_eq_refl
    (fun _ hq => call_meets PySem.F.slot_str_eq (typeIs_str s b u) PySem.F.entry_str_eq (PySem.F.args_str_eq_2 _ _) (str_eq_declines_dict b u l es n dd sl) ⟨ho, hq⟩)
    (fun _ hq => dict_declines ⟨_, ho, rfl⟩ (typeIs_str s b u) PySem.F.sub_str_dict hq)
    (fun _ hq => wpAny_of_eq (rfl : isSame (.str b u) (.ref l) = pure false) hq) (.inr hu) h
theorem RcNeAt.str_dict {l : Addr} (b : Str) (u : Tok) (hl : IsDct s.heap l) (hu : A.units < cLine) : RcNeAt A s (.str b u) (.ref l) true := fun prog w E Q h => by
  obtain ⟨es, n, dd, sl, ho⟩ := hl
  exact rc_ne_decline_or (k := false) (typeIs_str s b u) ⟨_, ho, rfl⟩ (by decide) PySem.F.sub_dict_str PySem.F.slot_str_ne PySem.F.slot_dict_ne_refl
    (fun _ hq => call_meets PySem.F.slot_str_ne (typeIs_str s b u) PySem.F.entry_str_ne (PySem.F.args_str_ne_2 _ _) (str_ne_declines_dict b u l es n dd sl) ⟨ho, hq⟩)
    (fun _ hq => dict_declines_ne ⟨_, ho, rfl⟩ (typeIs_str s b u) PySem.F.sub_str_dict hq)
    (fun _ hq => wpAny_of_eq (rfl : isSame (.str b u) (.ref l) = pure false) hq) (.inr hu) h
theorem EqAt.dict_none {l : Addr} (hl : IsDct s.heap l) (hu : A.units < cLine) : EqAt A s (.ref l) .none false := fun prog w E Q h => by
  unfold eqBool
  refine wpAny_holding ?_
  refine wpAny_ite_split (fun hab => absurd (eq_of_beq hab) nofun) (fun _ => ?_)
  exact wpAny_bind (RcAt.dict_none hl hu prog w E _ (wpAny_truthy_bool h))
theorem EqAt.none_dict {l : Addr} (hl : IsDct s.heap l) (hu : A.units < cLine) : EqAt A s .none (.ref l) false := fun prog w E Q h => by
  unfold eqBool
  refine wpAny_holding ?_
  refine wpAny_ite_split (fun hab => absurd (eq_of_beq hab) nofun) (fun _ => ?_)
  exact wpAny_bind (RcAt.none_dict hl hu prog w E _ (wpAny_truthy_bool h))
theorem EqAt.dict_str {l : Addr} (b : Str) (u : Tok) (hl : IsDct s.heap l) (hu : A.units < cLine) : EqAt A s (.ref l) (.str b u) false := fun prog w E Q h => by
  unfold eqBool
  refine wpAny_holding ?_
  refine wpAny_ite_split (fun hab => absurd (eq_of_beq hab) nofun) (fun _ => ?_)
  exact wpAny_bind (RcAt.dict_str b u hl hu prog w E _ (wpAny_truthy_bool h))
theorem EqAt.str_dict {l : Addr} (b : Str) (u : Tok) (hl : IsDct s.heap l) (hu : A.units < cLine) : EqAt A s (.str b u) (.ref l) false := fun prog w E Q h => by
  unfold eqBool
  refine wpAny_holding ?_
  refine wpAny_ite_split (fun hab => absurd (eq_of_beq hab) nofun) (fun _ => ?_)
  exact wpAny_bind (RcAt.str_dict b u hl hu prog w E _ (wpAny_truthy_bool h))
end
end Mi

set_option Elab.async false
set_option linter.all false
set_option maxRecDepth 100000
set_option maxHeartbeats 1000000
/-! Mi: == and != over plain data. -/
namespace Mi
open PySem PySem.Spec PyProof.Rows L2

/-- what may be read as a dict -/
def asK (h : Hh) : D → Option (List (Ky × D))
  | .ref i => match h[i]? with
    | some (.dct _ kvs) => some kvs
    | _ => none
  | _ => none
/-- a list or a dict -/
def isLD (h : Hh) (i : Nat) : Option Bool := match asL h (.ref i), asK h (.ref i) with
  | none, none => none
  | _, _ => some false
def eqL (f : D → D → Option Bool) : List D → List D → Option Bool
  | x :: xs, y :: ys => match f x y, eqL f xs ys with
    | some a, some b => some (a && b)
    | _, _ => none
  | _, _ => some true
/-- x == y, by places n deep -/
def eqV (h : Hh) : Nat → D → D → Option Bool
  | 0, _, _ => none
  | n + 1, x, y => match x, y with
    | .non, .non => some true
    | .non, .bl _ => some false | .non, .int _ => some false | .non, .str _ => some false | .non, .tup _ => some false
    | .bl _, .non => some false | .int _, .non => some false | .str _, .non => some false | .tup _, .non => some false
    | .bl a, .bl b => some (a == b)
    | .bl a, .int j => some ((if a then 1 else 0) == j)
    | .int i, .bl b => some (i == (if b then 1 else 0))
    | .int i, .int j => some (i == j)
    | .str l, .str m => some (l == m)
    | .bl _, .str _ => some false | .bl _, .tup _ => some false | .int _, .str _ => some false | .int _, .tup _ => some false
    | .str _, .bl _ => some false | .tup _, .bl _ => some false | .str _, .int _ => some false | .tup _, .int _ => some false
    | .str _, .tup _ => some false | .tup _, .str _ => some false
    | .tup xs, .tup ys => (eqL (eqV h n) xs ys).map fun b => b && xs.length == ys.length
    | .ref i, .ref j => match asL h (.ref i), asL h (.ref j) with
      | some xs, some ys => if i = j then some true else if xs.length = ys.length then eqL (eqV h n) xs ys else some false
      | _, _ => none
    | .ref i, .non => isLD h i
    | .ref i, .bl _ => (asL h (.ref i)).map fun _ => false
    | .ref i, .int _ => (asL h (.ref i)).map fun _ => false
    | .ref i, .str _ => isLD h i
    | .ref i, .tup _ => (asL h (.ref i)).map fun _ => false
    | .non, .ref i => isLD h i
    | .bl _, .ref i => (asL h (.ref i)).map fun _ => false
    | .int _, .ref i => (asL h (.ref i)).map fun _ => false
    | .str _, .ref i => isLD h i
    | .tup _, .ref i => (asL h (.ref i)).map fun _ => false
    | _, _ => none
section
variable {T : Tab} {ρ : List Addr} {H : Hp} {h : Hh}
theorem Rp.notTup (R : Rp T ρ h H) {i : Nat} {a : Addr} (e : ρ[i]? = some a) {o : HO} (ho : H a = some o) (c : ¬ Chg o) : False := by
  obtain ⟨o', _, k⟩ := R.obj e
  obtain ⟨u, hu, cu⟩ := k.chg
  rw [ho] at hu; cases hu
  exact c cu
theorem eqL_same {f : D → D → Option Bool} (ih : ∀ d e v b, RelD T ρ H d v → RelD T ρ H e v → f d e = some b → b = true) : ∀ {ds es : List D} {vs : List V} {b : Bool}, RelDs T ρ H ds vs → RelDs T ρ H es vs → eqL f ds es = some b → b = true
  | _, _, _, _, .nil, .nil, e => by cases e; rfl
  | d :: ds, e :: es, v :: vs, b, .cons h t, .cons h' t', q => by
    unfold eqL at q
    split at q
    · next x y e1 e2 =>
      cases q
      rw [ih d e v x h h' e1, eqL_same ih t t' e2]; rfl
    · cases q
theorem eqV_same (R : Rp T ρ h H) : ∀ (n : Nat) (d e : D) (v : V) (b : Bool), RelD T ρ H d v → RelD T ρ H e v → eqV h n d e = some b → b = true
  | 0, _, _, _, _, _, _, q => by cases q
  | n + 1, d, e, v, b, r, r', q => by
    cases r with
    | non => cases r'; cases q; rfl
    | bl c => cases r'; unfold eqV at q; cases q; simp
    | int i => cases r'; unfold eqV at q; cases q; simp
    | str h1 =>
      cases r' with
      | str h2 => unfold eqV at q; cases q; rw [← h1, ← h2]; simp
    | @tup ds a vs ha t =>
      cases r' with
      | @tup es _ _ ha' t' =>
        rw [ha] at ha'; cases ha'
        unfold eqV at q
        dsimp only at q
        cases e1 : eqL (eqV h n) ds es with
        | none => rw [e1] at q; cases q
        | some c =>
          rw [e1] at q; cases q
          rw [eqL_same (eqV_same R n) t t' e1, t.length, t'.length]; simp
      | ref h2 => exact (R.notTup h2 ha (fun z => z)).elim
      | exn _ => unfold eqV at q; cases q
      | exf _ _ _ _ => unfold eqV at q; cases q
    | @ref i a ha =>
      cases r' with
      | @tup es _ _ ha' t' => exact (R.notTup ha ha' (fun z => z)).elim
      | @ref j _ ha' =>
        have h1 : i < ρ.length := (List.getElem?_eq_some_iff.mp ha).1
        have h2 : j < ρ.length := (List.getElem?_eq_some_iff.mp ha').1
        have e1 : ρ[i] = a := (List.getElem?_eq_some_iff.mp ha).2
        have e2 : ρ[j] = a := (List.getElem?_eq_some_iff.mp ha').2
        have : i = j := (List.getElem_inj R.nd).mp (e1.trans e2.symm)
        subst this
        unfold eqV at q
        dsimp only at q
        split at q
        · rw [if_pos rfl] at q; cases q; rfl
        · cases q
      | exn _ => unfold eqV at q; cases q
      | exf _ _ _ _ => unfold eqV at q; cases q
    | exn _ => unfold eqV at q; cases q
    | exf _ _ _ _ => unfold eqV at q; cases q
end
open PySem.SeqAt in
theorem isTuple_of {h : Heap} {a : Addr} {its : Array Value} (x : IsTup h a its) : h.IsTuple a its := x
section
open PySem.SeqAt
variable {X : Cx} {T : Tab} {ρ : List Addr} {H : Hp} {h : Hh} {pins : List (Addr × Obj)} {σ : L2.St} {s : Shared}
theorem beq_str {x y : Str} {l m : List Nat} (e1 : x.cps.toList = l) (e2 : y.cps.toList = m) : (l == m) = (x == y) := by
  rw [← e1, ← e2]; exact str_beq x y
theorem Rp.isList (hK : X.K = T.K) (I : Inv X pins σ H s) (R : Rp T ρ h H) {i : Nat} {v : V} {xs : List D} (r : RelD T ρ H (.ref i) v) (e : Mi.asL h (.ref i) = some xs) : ∃ a vs its, v = .ref a ∧ Vals vs its ∧ s.heap.IsList a its.toArray ∧ RelDs T ρ H xs vs := by
  obtain ⟨a, vs, rfl, hs, rs⟩ := R.asL r e
  rw [← hK] at hs
  obtain ⟨its, rv, pl, _⟩ := I.list hs
  exact ⟨a, vs, its, rfl, rv, pl.isList, rs⟩
theorem Rp.asK {d : D} {v : V} {kvs : List (Ky × D)} (R : Rp T ρ h H) (r : RelD T ρ H d v) (e : Mi.asK h d = some kvs) : ∃ a m, v = .ref a ∧ Rd H a (.dK m) ∧ KVs T ρ H kvs m := by
  cases d with
  | ref i =>
    unfold Mi.asK at e
    cases eo : h[i]? with
    | none => simp only [eo] at e; cases e
    | some o =>
      simp only [eo] at e
      cases o with
      | dct lk ks =>
        cases e
        obtain ⟨a, m, rfl, _, hd, hk, _⟩ := R.dct r eo
        exact ⟨a, m, rfl, hd, hk⟩
      | _ => cases e
  | _ => cases e
theorem dictObj (I : Inv X pins σ H s) {a : Addr} {m : List (Key × V)} (hd : Rd H a (.dK m)) : m.length ≤ sizeLine ∧ (a == sysModules) = false ∧ ∃ vs, KV m vs ∧ s.heap.DictOf (mixKind X.prog X.w) a vs := dk_rd I.hok hd
theorem Rp.isDct (I : Inv X pins σ H s) (R : Rp T ρ h H) {i : Nat} {v : V} {kvs : List (Ky × D)} (r : RelD T ρ H (.ref i) v) (e : Mi.asK h (.ref i) = some kvs) : ∃ a : Addr, v = .ref a ∧ IsDct s.heap a := by
  obtain ⟨a, m, rfl, hd, _⟩ := R.asK r e
  obtain ⟨_, _, vs, _, dd⟩ := dictObj I hd
  obtain ⟨o, es, ep, ho, hx, hda, _⟩ := dd
  obtain ⟨cls, dd, data, sl⟩ := o
  obtain ⟨h1, h2, h3⟩ := hx
  simp only at h1 h2 h3 hda
  subst h1 h2 h3 hda
  exact ⟨a, rfl, es, ep, none, _, ho⟩
theorem eqL_at {n : Nat} {A : Around} (ih : ∀ x y v w b u w', eqV h n x y = some b → RelD T ρ H x v → RelD T ρ H y w → RelV v u → RelV w w' → EqAt A s u w' b) : ∀ {xs ys : List D} {vs ws : List V} {us us' : List Value} {b : Bool}, eqL (eqV h n) xs ys = some b → RelDs T ρ H xs vs → RelDs T ρ H ys ws → Vals vs us → Vals ws us' →
    ∃ e : Nat → Bool, (∀ j (h1 : j < us.toArray.size) (h2 : j < us'.toArray.size), EqAt A s us.toArray[j] us'.toArray[j] (e j)) ∧ (List.range (min us.length us'.length)).all e = b
  | [], ys, vs, ws, us, us', b, q, r1, r2, r3, r4 => by
    cases r1; cases r3
    cases q
    exact ⟨fun _ => true, fun j h1 => absurd h1 (Nat.not_lt_zero j), by simp⟩
  | x :: xs, [], vs, ws, us, us', b, q, r1, r2, r3, r4 => by
    cases r2; cases r4
    cases q
    exact ⟨fun _ => true, fun j _ h1 => absurd h1 (Nat.not_lt_zero j), by simp⟩
  | x :: xs, y :: ys, _, _, _, _, b, q, .cons h1 t1, .cons h2 t2, .cons h3 t3, .cons h4 t4 => by
    unfold eqL at q
    split at q
    · next c d e1 e2 =>
      cases q
      obtain ⟨e, he, ha⟩ := eqL_at ih e2 t1 t2 t3 t4
      refine ⟨fun j => match j with | 0 => c | j + 1 => e j, fun j k1 k2 => ?_, ?_⟩
      · cases j with
        | zero => exact ih _ _ _ _ _ _ _ e1 h1 h2 h3 h4
        | succ j =>
          have z := he j (by simpa using k1) (by simpa using k2)
          simp only [List.getElem_toArray, List.getElem_cons_succ] at z ⊢
          exact z
      · rw [List.length_cons, List.length_cons, Nat.succ_min_succ, List.range_succ_eq_map, List.all_cons, List.all_map, ← ha]
        rfl
    · cases q
/-- == of two values, at the machine -/
theorem eqV_rc (hK : X.K = T.K) (I : Inv X pins σ H s) (R : Rp T ρ h H) : ∀ (n : Nat) (x y : D) (v w : V) (b : Bool) (u w' : Value) (A : Around), eqV h n x y = some b → RelD T ρ H x v → RelD T ρ H y w → RelV v u → RelV w w' → A.units + n < cLine → RcAt A s u w' b ∧ RcNeAt A s u w' (!b) ∧ EqAt A s u w' b
  | 0, _, _, _, _, _, _, _, _, q, _, _, _, _, _ => by cases q
  | n + 1, x, y, v, w, b, u, w', A, q, rx, ry, ru, rw', hu => by
    have hu0 : A.units < cLine := by omega
    have hin : A.in1.units + n < cLine := by show A.units + 1 + n < cLine; omega
    have ih : ∀ x y v w b u w', eqV h n x y = some b → RelD T ρ H x v → RelD T ρ H y w → RelV v u → RelV w w' → EqAt A.in1 s u w' b :=
      fun x y v w b u w' q r1 r2 r3 r4 => (eqV_rc hK I R n x y v w b u w' A.in1 q r1 r2 r3 r4 hin).2.2
    have tupl : ∀ {xs : List D} {v : V} {u : Value}, RelD T ρ H (.tup xs) v → RelV v u → ∃ a vs its, v = .ref a ∧ u = .ref a ∧ Vals vs its ∧ s.heap.IsTuple a its.toArray ∧ RelDs T ρ H xs vs := fun r q => by
      obtain ⟨a, vs, rfl, ha, rs⟩ := relT r
      obtain ⟨its, rv, it, _⟩ := I.tuple (.of ha)
      exact ⟨a, vs, its, rfl, q, rv, isTuple_of it, rs⟩
    have ld : ∀ {i : Nat} {c : Bool} {v : V} {u : Value}, isLD h i = some c → RelD T ρ H (.ref i) v → RelV v u → c = false ∧ ∃ a, u = .ref a ∧ ((∃ its, s.heap.IsList a its) ∨ IsDct s.heap a) := fun {i c v u} e r q => by
      unfold isLD at e
      cases e1 : asL h (.ref i) with
      | some xs =>
        rw [e1] at e; cases e
        obtain ⟨a, vs, its, rfl, _, il, _⟩ := R.isList hK I r e1
        exact ⟨rfl, a, q, .inl ⟨_, il⟩⟩
      | none =>
        cases e2 : asK h (.ref i) with
        | none => rw [e1, e2] at e; cases e
        | some kvs =>
          rw [e1, e2] at e; cases e
          obtain ⟨a, rfl, hd⟩ := R.isDct I r e2
          exact ⟨rfl, a, q, .inr hd⟩
    have lst : ∀ {i : Nat} {c : Bool} {v : V} {u : Value}, (asL h (.ref i)).map (fun _ => false) = some c → RelD T ρ H (.ref i) v → RelV v u → ∃ a its, u = .ref a ∧ s.heap.IsList a its ∧ c = false := fun {i c v u} e r q => by
      cases e1 : asL h (.ref i) with
      | none => rw [e1] at e; cases e
      | some xs =>
        rw [e1] at e; cases e
        obtain ⟨a, vs, its, rfl, _, il, _⟩ := R.isList hK I r e1
        exact ⟨a, _, q, il, rfl⟩
    unfold eqV at q
    split at q
    · cases relN rx; cases relN ry; cases ru; cases rw'; cases q; exact ⟨.none_none, .none_none, .same _⟩
    · cases relN rx; cases relB ry; cases ru; cases rw'; cases q; exact ⟨.none_bool _, .none_bool _, .none_bool _⟩
    · cases relN rx; cases relI ry; cases ru; obtain ⟨t, rfl⟩ := rw'; cases q; exact ⟨.none_int _ _, .none_int _ _, .none_int _ _⟩
    · cases relN rx; obtain ⟨z, rfl, _⟩ := relSt ry; cases ru; obtain ⟨t, rfl⟩ := rw'; cases q; exact ⟨.none_str _ _, .none_str _ _, .none_str _ _⟩
    · cases relN rx; obtain ⟨a, vs, its, rfl, rfl, _, it, _⟩ := tupl ry rw'; cases ru; cases q; exact ⟨.none_tuple it hu0, .none_tuple it hu0, .none_tuple it hu0⟩
    · cases relB rx; cases relN ry; cases ru; cases rw'; cases q; exact ⟨.bool_none _, .bool_none _, .bool_none _⟩
    · cases relI rx; cases relN ry; obtain ⟨t, rfl⟩ := ru; cases rw'; cases q; exact ⟨.int_none _ _, .int_none _ _, .int_none _ _⟩
    · obtain ⟨z, rfl, _⟩ := relSt rx; cases relN ry; obtain ⟨t, rfl⟩ := ru; cases rw'; cases q; exact ⟨.str_none _ _, .str_none _ _, .str_none _ _⟩
    · obtain ⟨a, vs, its, rfl, rfl, _, it, _⟩ := tupl rx ru; cases relN ry; cases rw'; cases q; exact ⟨.tuple_none it hu0, .tuple_none it hu0, .tuple_none it hu0⟩
    · cases relB rx; cases relB ry; cases ru; cases rw'; cases q; exact ⟨.bool_bool _ _, .bool_bool _ _, .bool_bool _ _⟩
    · cases relB rx; cases relI ry; cases ru; obtain ⟨t, rfl⟩ := rw'; cases q; exact ⟨.bool_int _ _ _, .bool_int _ _ _, .bool_int _ _ _⟩
    · cases relI rx; cases relB ry; obtain ⟨t, rfl⟩ := ru; cases rw'; cases q; exact ⟨.int_bool _ _ _, .int_bool _ _ _, .int_bool _ _ _⟩
    · cases relI rx; cases relI ry; obtain ⟨t, rfl⟩ := ru; obtain ⟨t', rfl⟩ := rw'; cases q; exact ⟨.int_int _ _ _ _, .int_int _ _ _ _, .int_int _ _ _ _⟩
    · obtain ⟨z, rfl, e1⟩ := relSt rx; obtain ⟨z', rfl, e2⟩ := relSt ry; obtain ⟨t, rfl⟩ := ru; obtain ⟨t', rfl⟩ := rw'; cases q; rw [beq_str e1 e2]; exact ⟨.str_str _ _ _ _, .str_str _ _ _ _, .str_str _ _ _ _⟩
    · cases relB rx; obtain ⟨z, rfl, _⟩ := relSt ry; cases ru; obtain ⟨t, rfl⟩ := rw'; cases q; exact ⟨.bool_str _ _ _, .bool_str _ _ _, .bool_str _ _ _⟩
    · cases relB rx; obtain ⟨a, vs, its, rfl, rfl, _, it, _⟩ := tupl ry rw'; cases ru; cases q; exact ⟨.bool_tuple _ it hu0, .bool_tuple _ it hu0, .bool_tuple _ it hu0⟩
    · cases relI rx; obtain ⟨z, rfl, _⟩ := relSt ry; obtain ⟨t, rfl⟩ := ru; obtain ⟨t', rfl⟩ := rw'; cases q; exact ⟨.int_str _ _ _ _, .int_str _ _ _ _, .int_str _ _ _ _⟩
    · cases relI rx; obtain ⟨a, vs, its, rfl, rfl, _, it, _⟩ := tupl ry rw'; obtain ⟨t, rfl⟩ := ru; cases q; exact ⟨.int_tuple _ _ it hu0, .int_tuple _ _ it hu0, .int_tuple _ _ it hu0⟩
    · obtain ⟨z, rfl, _⟩ := relSt rx; cases relB ry; obtain ⟨t, rfl⟩ := ru; cases rw'; cases q; exact ⟨.str_bool _ _ _, .str_bool _ _ _, .str_bool _ _ _⟩
    · obtain ⟨a, vs, its, rfl, rfl, _, it, _⟩ := tupl rx ru; cases relB ry; cases rw'; cases q; exact ⟨.tuple_bool _ it hu0, .tuple_bool _ it hu0, .tuple_bool _ it hu0⟩
    · obtain ⟨z, rfl, _⟩ := relSt rx; cases relI ry; obtain ⟨t, rfl⟩ := ru; obtain ⟨t', rfl⟩ := rw'; cases q; exact ⟨.str_int _ _ _ _, .str_int _ _ _ _, .str_int _ _ _ _⟩
    · obtain ⟨a, vs, its, rfl, rfl, _, it, _⟩ := tupl rx ru; cases relI ry; obtain ⟨t, rfl⟩ := rw'; cases q; exact ⟨.tuple_int _ _ it hu0, .tuple_int _ _ it hu0, .tuple_int _ _ it hu0⟩
    · obtain ⟨z, rfl, _⟩ := relSt rx; obtain ⟨a, vs, its, rfl, rfl, _, it, _⟩ := tupl ry rw'; obtain ⟨t, rfl⟩ := ru; cases q; exact ⟨.str_tuple _ _ it hu0, .str_tuple _ _ it hu0, .str_tuple _ _ it hu0⟩
    · obtain ⟨z, rfl, _⟩ := relSt ry; obtain ⟨a, vs, its, rfl, rfl, _, it, _⟩ := tupl rx ru; obtain ⟨t, rfl⟩ := rw'; cases q; exact ⟨.tuple_str _ _ it hu0, .tuple_str _ _ it hu0, .tuple_str _ _ it hu0⟩
    · next xs ys =>
      obtain ⟨a, vs, its, rfl, rfl, rv, it, rs⟩ := tupl rx ru
      obtain ⟨a', vs', its', rfl, rfl, rv', it', rs'⟩ := tupl ry rw'
      cases e1 : eqL (eqV h n) xs ys with
      | none => rw [e1] at q; cases q
      | some c =>
        have q0 : eqV h (n + 1) (.tup xs) (.tup ys) = some b := by unfold eqV; exact q
        rw [e1] at q; cases q
        obtain ⟨e, he, ha⟩ := eqL_at ih e1 rs rs' rv rv'
        have el : (its.toArray.size == its'.toArray.size) = (xs.length == ys.length) := by
          rw [List.size_toArray, List.size_toArray, ← rv.length, ← rv'.length, ← rs.length, ← rs'.length]
        have k1 : RcAt A s (.ref a) (.ref a') (c && xs.length == ys.length) := by
          have := RcAt.tuples it it' hu0 he
          rw [el, List.size_toArray, List.size_toArray, ha] at this
          exact this
        have k2 : RcNeAt A s (.ref a) (.ref a') (!(c && xs.length == ys.length)) := by
          have := RcNeAt.tuples it it' hu0 he
          rw [el, List.size_toArray, List.size_toArray, ha] at this
          exact this
        refine ⟨k1, k2, ?_⟩
        by_cases ea : a = a'
        · subst ea
          rw [eqV_same R (n + 1) _ _ _ _ rx ry q0]
          exact .same _
        · exact .of_refs ea k1
    · next i j =>
      have q0 := q
      split at q
      · next xs ys e1 e2 =>
        obtain ⟨a, vs, its, rfl, rv, il, rs⟩ := R.isList hK I rx e1
        obtain ⟨a', vs', its', rfl, rv', il', rs'⟩ := R.isList hK I ry e2
        cases ru; cases rw'
        by_cases ij : i = j
        · subst ij
          rw [if_pos rfl] at q; cases q
          rw [e1] at e2; cases e2
          have ea : a = a' := by
            cases rx with
            | ref h1 => cases ry with
              | ref h2 => rw [h1] at h2; exact Option.some.inj h2
          subst ea
          have he : ∀ j (h1 : j < its.toArray.size) (h2 : j < its.toArray.size), EqAt A.in1 s its.toArray[j] its.toArray[j] ((fun _ => true) j) := fun j _ _ => .same _
          have k1 := RcAt.lists (e := fun _ => true) il il rfl hu0 he
          have k2 := RcNeAt.lists (e := fun _ => true) il il rfl hu0 he
          have et : ((List.range its.toArray.size).all fun _ => true) = true := List.all_eq_true.mpr fun _ _ => rfl
          rw [et] at k1 k2
          exact ⟨k1, k2, .same _⟩
        · rw [if_neg ij] at q
          have ea : a ≠ a' := fun z => by
            subst z
            cases rx with
            | ref h1 => cases ry with
              | ref h2 =>
                have k1 : i < ρ.length := (List.getElem?_eq_some_iff.mp h1).1
                have k2 : j < ρ.length := (List.getElem?_eq_some_iff.mp h2).1
                have e1 : ρ[i] = a := (List.getElem?_eq_some_iff.mp h1).2
                have e2 : ρ[j] = a := (List.getElem?_eq_some_iff.mp h2).2
                exact ij ((List.getElem_inj R.nd).mp (e1.trans e2.symm))
          by_cases el : xs.length = ys.length
          · rw [if_pos el] at q
            obtain ⟨e, he, ha⟩ := eqL_at ih q rs rs' rv rv'
            have es : its.toArray.size = its'.toArray.size := by rw [List.size_toArray, List.size_toArray, ← rv.length, ← rv'.length, ← rs.length, ← rs'.length]; exact el
            have em : min its.length its'.length = its.toArray.size := by
              rw [List.size_toArray, List.size_toArray] at es
              rw [List.size_toArray, es, Nat.min_self]
            rw [em] at ha
            have k1 := RcAt.lists il il' es hu0 he
            have k2 := RcNeAt.lists il il' es hu0 he
            rw [ha] at k1 k2
            exact ⟨k1, k2, .of_refs ea k1⟩
          · rw [if_neg el] at q; cases q
            have es : (its.toArray.size != its'.toArray.size) = true := by
              rw [List.size_toArray, List.size_toArray, ← rv.length, ← rv'.length, ← rs.length, ← rs'.length]
              simpa using el
            have k1 := RcAt.lists_lengths (A := A) il il' es hu0
            exact ⟨k1, RcNeAt.lists_lengths il il' es hu0, .of_refs ea k1⟩
      · cases q
    · obtain ⟨rfl, a, rfl, ⟨its, il⟩ | il⟩ := ld q rx ru
      · cases relN ry; cases rw'; exact ⟨.list_none il hu0, .list_none il hu0, .list_none il hu0⟩
      · cases relN ry; cases rw'; exact ⟨RcAt.dict_none il hu0, RcNeAt.dict_none il hu0, EqAt.dict_none il hu0⟩
    · obtain ⟨a, its, rfl, il, rfl⟩ := lst q rx ru; cases relB ry; cases rw'; exact ⟨.list_bool _ il hu0, .list_bool _ il hu0, .list_bool _ il hu0⟩
    · obtain ⟨a, its, rfl, il, rfl⟩ := lst q rx ru; cases relI ry; obtain ⟨t, rfl⟩ := rw'; exact ⟨.list_int _ _ il hu0, .list_int _ _ il hu0, .list_int _ _ il hu0⟩
    · obtain ⟨rfl, a, rfl, ⟨its, il⟩ | il⟩ := ld q rx ru
      · obtain ⟨z, rfl, _⟩ := relSt ry; obtain ⟨t, rfl⟩ := rw'; exact ⟨.list_str _ _ il hu0, .list_str _ _ il hu0, .list_str _ _ il hu0⟩
      · obtain ⟨z, rfl, _⟩ := relSt ry; obtain ⟨t, rfl⟩ := rw'; exact ⟨RcAt.dict_str _ _ il hu0, RcNeAt.dict_str _ _ il hu0, EqAt.dict_str _ _ il hu0⟩
    · obtain ⟨a, its, rfl, il, rfl⟩ := lst q rx ru; obtain ⟨a', vs, its', rfl, rfl, _, it, _⟩ := tupl ry rw'; exact ⟨.list_tuple il it hu0, .list_tuple il it hu0, .list_tuple il it hu0⟩
    · obtain ⟨rfl, a, rfl, ⟨its, il⟩ | il⟩ := ld q ry rw'
      · cases relN rx; cases ru; exact ⟨.none_list il hu0, .none_list il hu0, .none_list il hu0⟩
      · cases relN rx; cases ru; exact ⟨RcAt.none_dict il hu0, RcNeAt.none_dict il hu0, EqAt.none_dict il hu0⟩
    · obtain ⟨a, its, rfl, il, rfl⟩ := lst q ry rw'; cases relB rx; cases ru; exact ⟨.bool_list _ il hu0, .bool_list _ il hu0, .bool_list _ il hu0⟩
    · obtain ⟨a, its, rfl, il, rfl⟩ := lst q ry rw'; cases relI rx; obtain ⟨t, rfl⟩ := ru; exact ⟨.int_list _ _ il hu0, .int_list _ _ il hu0, .int_list _ _ il hu0⟩
    · obtain ⟨rfl, a, rfl, ⟨its, il⟩ | il⟩ := ld q ry rw'
      · obtain ⟨z, rfl, _⟩ := relSt rx; obtain ⟨t, rfl⟩ := ru; exact ⟨.str_list _ _ il hu0, .str_list _ _ il hu0, .str_list _ _ il hu0⟩
      · obtain ⟨z, rfl, _⟩ := relSt rx; obtain ⟨t, rfl⟩ := ru; exact ⟨RcAt.str_dict _ _ il hu0, RcNeAt.str_dict _ _ il hu0, EqAt.str_dict _ _ il hu0⟩
    · obtain ⟨a, its, rfl, il, rfl⟩ := lst q ry rw'; obtain ⟨a', vs, its', rfl, rfl, _, it, _⟩ := tupl rx ru; exact ⟨.tuple_list it il hu0, .tuple_list it il hu0, .tuple_list it il hu0⟩
    · cases q
end
end Mi

set_option Elab.async false
set_option linter.all false
set_option maxRecDepth 100000
set_option maxHeartbeats 1000000
/-! Mi: comparisons, items, slices, methods. -/
namespace Mi
open PySem PySem.Spec PyProof.Rows L2

/-- no exception in it -/
def clean : D → Bool
  | .tup xs => cleans xs
  | .exn _ _ => false
  | _ => true
where cleans : List D → Bool
  | [] => true
  | x :: xs => clean x && cleans xs
section
variable {T : Tab} {ρ : List Addr} {H : Hp} {h : Hh}
mutual
theorem RelD.inj (R : Rp T ρ h H) : ∀ {d e : D} {v : V}, clean d = true → RelD T ρ H d v → RelD T ρ H e v → d = e
  | _, _, _, _, .non, r => by cases r; rfl
  | _, _, _, _, .bl b, r => by cases r; rfl
  | _, _, _, _, .int i, r => by cases r; rfl
  | _, _, _, _, .str h1, r => by
    cases r with
    | str h2 => rw [← h1, ← h2]
  | _, e, _, c, .tup ha t, r => by
    cases r with
    | tup ha' t' =>
      rw [ha] at ha'; cases ha'
      exact congrArg D.tup (RelDs.inj R c t t')
    | ref h2 => exact (R.notTup h2 ha (fun z => z)).elim
    | exn h2 => rw [ha] at h2; cases h2
    | exf h2 _ _ _ => rw [ha] at h2; cases h2
  | _, e, _, _, .ref (i := i) ha, r => by
    cases r with
    | tup ha' t' => exact (R.notTup ha ha' (fun z => z)).elim
    | @ref j _ ha' =>
      have h1 : i < ρ.length := (List.getElem?_eq_some_iff.mp ha).1
      have h2 : j < ρ.length := (List.getElem?_eq_some_iff.mp ha').1
      have e1 := (List.getElem?_eq_some_iff.mp ha).2
      have e2 := (List.getElem?_eq_some_iff.mp ha').2
      rw [(List.getElem_inj R.nd).mp (e1.trans e2.symm)]
    | exn h2 => exact (R.notTup ha h2 (fun z => z)).elim
    | exf h2 _ _ _ => exact (R.notTup ha h2 (fun z => z)).elim
  | _, _, _, c, .exn h1, _ => by cases c
  | _, _, _, c, .exf h1 _ _ _, _ => by cases c
theorem RelDs.inj (R : Rp T ρ h H) : ∀ {ds es : List D} {vs : List V}, clean.cleans ds = true → RelDs T ρ H ds vs → RelDs T ρ H es vs → ds = es
  | _, _, _, _, .nil, r => by cases r; rfl
  | _, _, _, c, .cons h1 t, r => by
    cases r with
    | cons h2 t' =>
      have c' := Bool.and_eq_true_iff.mp c
      rw [RelD.inj R c'.1 h1 h2, RelDs.inj R c'.2 t t']
end
/-- the equality with x of the items -/
def eqsWith (h : Hh) (x : D) : List D → Option (List Bool)
  | [] => some []
  | d :: ds => match eqV h 190 d x, eqsWith h x ds with
    | some b, some bs => if clean d then some (b :: bs) else none
    | _, _ => none
end
section
open PySem.SeqAt
variable {X : Cx} {T : Tab} {ρ : List Addr} {H : Hp} {h : Hh} {pins : List (Addr × Obj)} {σ : L2.St} {s : Shared}
theorem eqsWith_at {A : Around} (hK : X.K = T.K) (I : Inv X pins σ H s) (R : Rp T ρ h H) (hu : A.units + 190 < cLine) {x : D} {w : V} {w' : Value} (rx : RelD T ρ H x w) (rw' : RelV w w') :
    ∀ {ds : List D} {vs : List V} {us : List Value} {bs : List Bool}, eqsWith h x ds = some bs → RelDs T ρ H ds vs → Vals vs us →
      ∃ e : Value → Bool, (∀ u ∈ us, EqAt A s u w' (e u)) ∧ us.map e = bs ∧ ∀ (d : D) (v : V) (u : Value) b, eqV h 190 d x = some b → clean d = true → RelD T ρ H d v → RelV v u → u ∈ us → e u = b
  | [], _, _, _, e, .nil, .nil => by cases e; exact ⟨fun _ => true, fun _ hu => (by cases hu), rfl, fun _ _ _ _ _ _ _ _ hu => (by cases hu)⟩
  | d :: ds, v :: vs, u :: us, bs, e, .cons r1 t1, .cons r2 t2 => by
    unfold eqsWith at e
    split at e
    · next b bs' e1 e2 =>
      split at e
      · next hc =>
        cases e
        obtain ⟨f, hf, hm, hall⟩ := eqsWith_at hK I R hu rx rw' e2 t1 t2
        refine ⟨fun z => if z ∈ us then f z else b, fun z hz => ?_, ?_, fun d' v' u' b' q1 q2 q3 q4 q5 => ?_⟩
        · dsimp only
          by_cases hz' : z ∈ us
          · rw [if_pos hz']; exact hf z hz'
          · rw [if_neg hz']
            rcases List.mem_cons.mp hz with rfl | hz
            · exact (eqV_rc hK I R 190 _ _ _ _ _ _ _ A e1 r1 rx r2 rw' hu).2.2
            · exact absurd hz hz'
        · rw [List.map_cons]
          congr 1
          · by_cases hz' : u ∈ us
            · rw [if_pos hz']; exact hall d v u b e1 hc r1 r2 hz'
            · rw [if_neg hz']
          · rw [← hm]
            exact List.map_congr_left fun z hz => if_pos hz
        · dsimp only
          by_cases hz' : u' ∈ us
          · rw [if_pos hz']; exact hall d' v' u' b' q1 q2 q3 q4 hz'
          · rw [if_neg hz']
            rcases List.mem_cons.mp q5 with rfl | hz
            · have ev : v' = v := RelV.inj q4 r2
              subst ev
              have ed := RelD.inj R q2 q3 r1
              subst ed
              rw [q1] at e1
              exact (Option.some.inj e1).symm
            · exact absurd hz hz'
      · cases e
    · cases e
end

/-! ### ==, != -/
/-- two dicts by their values -/
def eqKs (h : Hh) (ls : List (Ky × D)) : List (Ky × D) → Option Bool
  | [] => some true
  | (k, d) :: r => match getKd ls k with
    | none => some false
    | some e => match eqV h 190 d e, eqKs h ls r with
      | some a, some b => some (a && b)
      | _, _ => none
def eqTop (h : Hh) (x y : D) : Option Bool := match asK h x, asK h y with
  | some ks, some ls => if ks.length = ls.length then eqKs h ls ks else some false
  | _, _ => eqV h 190 x y
def eqS : S2 := fun h x y => (eqTop h x y).map fun b => (.bl b, h)
def neS : S2 := fun h x y => (eqTop h x y).map fun b => (.bl (!b), h)
/-! ### order -/
def ltS : S2 := fun h x y => match x, y with
  | .int i, .int j => some (.bl (decide (i < j)), h)
  | .str l, .str m => some (.bl (decide (l < m)), h)
  | _, _ => none
def leS : S2 := fun h x y => match x, y with
  | .int i, .int j => some (.bl (decide (i ≤ j)), h)
  | _, _ => none
def gtS : S2 := fun h x y => match x, y with
  | .int i, .int j => some (.bl (decide (j < i)), h)
  | _, _ => none
def geS : S2 := fun h x y => match x, y with
  | .int i, .int j => some (.bl (decide (j ≤ i)), h)
  | _, _ => none
/-! ### is None -/
def isNonD : D → Bool
  | .non => true
  | _ => false
def isS : S2 := fun h x y => match y with
  | .non => some (.bl (isNonD x), h)
  | _ => none
def isntS : S2 := fun h x y => match y with
  | .non => some (.bl (!isNonD x), h)
  | _ => none
/-! ### in -/
def inV (h : Hh) (x y : D) : Option Bool := match y with
  | .str m => (match x with
    | .str [c] => some (decide (c ∈ m))
    | _ => none)
  | .tup ys => (eqsWith h x ys).map fun bs => bs.any id
  | .ref _ => match asK h y with
    | some kvs => (x.ky).map fun k => (getKd kvs k).isSome
    | none => match asL h y with
      | some ys => (eqsWith h x ys).map fun bs => bs.any id
      | none => none
  | _ => none
def inS : S2 := fun h x y => (inV h x y).map fun b => (.bl b, h)
def notInS : S2 := fun h x y => (inV h x y).map fun b => (.bl (!b), h)
section
open PySem.SeqAt
variable {X : Cx} {T : Tab} {ρ : List Addr} {H : Hp} {h : Hh} {pins : List (Addr × Obj)} {σ : L2.St} {s : Shared}
theorem eqKs_at {A : Around} (hK : X.K = T.K) (I : Inv X pins σ H s) (R : Rp T ρ h H) (hu : A.units + 190 < cLine) {ls : List (Ky × D)} {m : List (Key × V)} {vb : List (Key × Value)} (rl : KVs T ρ H ls m) (rb : KV m vb) :
    ∀ {ks : List (Ky × D)} {m' : List (Key × V)} {va : List (Key × Value)} {b : Bool}, eqKs h ls ks = some b → KVs T ρ H ks m' → KV m' va → PySem.W.KeqHits A s vb va b
  | [], _, _, _, e, .nil, .nil => by cases e; exact .nil
  | (k, d) :: ks, (q, v) :: m', (q', u) :: va, b, e, .cons hk hd t, .cons hp t' => by
    obtain ⟨e0, rv⟩ := hp
    have e0' : q = q' := e0
    subst e0'
    unfold eqKs at e
    cases eg : getKd ls k with
    | none =>
      rw [eg] at e
      cases e
      have hn := (rl.get hk).2 eg
      have hz := rb.val q
      rw [hn] at hz
      exact .miss hz.none_of
    | some d' =>
      rw [eg] at e
      dsimp only at e
      split at e
      · next a b' e1 e2 =>
        cases e
        obtain ⟨v', hv', rd'⟩ := (rl.get hk).1 d' eg
        have hz := rb.val q
        rw [hv'] at hz
        obtain ⟨u', hu', ru'⟩ := hz.some_of
        exact .hit hu' (eqV_rc hK I R 190 _ _ _ _ _ _ _ A e1 hd rd' rv ru' hu).2.2 (eqKs_at hK I R hu rl rb e2 t t')
      · cases e
theorem eqTop_run (hK : X.K = T.K) (hu : X.A.units + 200 < cLine) (I : Inv X pins σ H s) (R : Rp T ρ h H) {x y : D} {v w : V} {u w' : Value} {b : Bool} (e : eqTop h x y = some b) (rx : RelD T ρ H x v) (ry : RelD T ρ H y w) (ru : RelV v u) (rw' : RelV w w') :
    (∀ Q : Value → Shared → Prop, Q (.bool b) s → wpAny (model X.prog X.w) X.A (compareOp .Eq u w') Q X.xe s) ∧ (∀ Q : Value → Shared → Prop, Q (.bool (!b)) s → wpAny (model X.prog X.w) X.A (compareOp .NotEq u w') Q X.xe s) := by
  unfold eqTop at e
  split at e
  · next ks ls e1 e2 =>
    obtain ⟨a, m, rfl, hd, rk⟩ := R.asK rx e1
    obtain ⟨a', m', rfl, hd', rk'⟩ := R.asK ry e2
    obtain rfl : u = Value.ref a := ru
    obtain rfl : w' = Value.ref a' := rw'
    obtain ⟨_, ya, va, ra, da⟩ := dictObj I hd
    obtain ⟨_, yb, vb, rb, db⟩ := dictObj I hd'
    have hin : X.A.in1.units + 190 < cLine := by show X.A.units + 1 + 190 < cLine; omega
    have hla : va.length = ks.length := by rw [← ra.length, ← rk.length]
    have hlb : vb.length = ls.length := by rw [← rb.length, ← rk'.length]
    by_cases el : ks.length = ls.length
    · rw [if_pos el] at e
      have hits := eqKs_at (A := X.A.in1) hK I R hin rk' rb e rk ra
      have ee : (va.length == vb.length && b) = b := by rw [hla, hlb, el]; simp
      exact ⟨fun Q q => PySem.W.keq_eq (knd := mixKind X.prog X.w) ya yb da db (by omega) (fun _ => hits) (by rw [ee]; exact q),
        fun Q q => PySem.W.keq_ne (knd := mixKind X.prog X.w) ya yb da db (by omega) (fun _ => hits) (by rw [ee]; exact q)⟩
    · rw [if_neg el] at e
      cases e
      have el' : ¬ va.length = vb.length := by rw [hla, hlb]; exact el
      have ee : (va.length == vb.length && true) = false := by simp [el']
      exact ⟨fun Q q => PySem.W.keq_eq (knd := mixKind X.prog X.w) (r := true) ya yb da db (by omega) (fun z => absurd z el') (by rw [ee]; exact q),
        fun Q q => PySem.W.keq_ne (knd := mixKind X.prog X.w) (r := true) ya yb da db (by omega) (fun z => absurd z el') (by rw [ee]; exact q)⟩
  · have z := eqV_rc hK I R 190 _ _ _ _ _ _ _ X.A e rx ry ru rw' (by omega)
    exact ⟨fun Q q => z.1 _ _ _ Q q, fun Q q => z.2.1 _ _ _ Q q⟩
theorem op_eqS (hK : X.K = T.K) (hu : X.A.units + 200 < cLine) : OpR X (compareOp .Eq) (r2 T eqS) := by
  intro pins s σ H x y v u Q I rx ry hr
  obtain ⟨ρ, h, d, e, R, rd, re, a⟩ := hr
  obtain ⟨z, h1, ez⟩ := a.ex
  unfold eqS at ez a
  cases et : eqTop h d e with
  | none => rw [et] at ez; cases ez
  | some b =>
    rw [et] at a
    exact (eqTop_run hK hu I R et rd re rx ry).1 _ ⟨.bl b, H, I, rfl, a.val R rfl (.bl b)⟩
theorem op_neS (hK : X.K = T.K) (hu : X.A.units + 200 < cLine) : OpR X (compareOp .NotEq) (r2 T neS) := by
  intro pins s σ H x y v u Q I rx ry hr
  obtain ⟨ρ, h, d, e, R, rd, re, a⟩ := hr
  obtain ⟨z, h1, ez⟩ := a.ex
  unfold neS at ez a
  cases et : eqTop h d e with
  | none => rw [et] at ez; cases ez
  | some b =>
    rw [et] at a
    exact (eqTop_run hK hu I R et rd re rx ry).2 _ ⟨.bl (!b), H, I, rfl, a.val R rfl (.bl (!b))⟩
theorem op_ltS : OpR X (compareOp .Lt) (r2 T ltS) := by
  intro pins s σ H x y v u Q I rx ry hr
  obtain ⟨ρ, h, d, e, R, rd, re, a⟩ := hr
  obtain ⟨z, h1, ez⟩ := a.ex
  unfold ltS at ez a
  split at ez
  · cases relI rd; cases relI re
    exact op_lt pins s σ H _ _ v u Q I rx ry ⟨_, _, rfl, rfl, a.val R rfl (.bl _)⟩
  · obtain ⟨x', rfl, e1⟩ := relSt rd
    obtain ⟨y', rfl, e2⟩ := relSt re
    refine op_lt_str pins s σ H _ _ v u Q I rx ry ⟨_, _, rfl, rfl, ?_⟩
    rw [e1, e2]
    exact a.val R rfl (.bl _)
  · cases ez
theorem op_leS : OpR X (compareOp .LtE) (r2 T leS) := by
  intro pins s σ H x y v u Q I rx ry hr
  obtain ⟨ρ, h, d, e, R, rd, re, a⟩ := hr
  obtain ⟨z, h1, ez⟩ := a.ex
  unfold leS at ez a
  split at ez
  · cases relI rd; cases relI re
    exact op_le pins s σ H _ _ v u Q I rx ry ⟨_, _, rfl, rfl, a.val R rfl (.bl _)⟩
  · cases ez
theorem op_gtS : OpR X (compareOp .Gt) (r2 T gtS) := by
  intro pins s σ H x y v u Q I rx ry hr
  obtain ⟨ρ, h, d, e, R, rd, re, a⟩ := hr
  obtain ⟨z, h1, ez⟩ := a.ex
  unfold gtS at ez a
  split at ez
  · cases relI rd; cases relI re
    exact op_gt pins s σ H _ _ v u Q I rx ry ⟨_, _, rfl, rfl, a.val R rfl (.bl _)⟩
  · cases ez
theorem op_geS : OpR X (compareOp .GtE) (r2 T geS) := by
  intro pins s σ H x y v u Q I rx ry hr
  obtain ⟨ρ, h, d, e, R, rd, re, a⟩ := hr
  obtain ⟨z, h1, ez⟩ := a.ex
  unfold geS at ez a
  split at ez
  · cases relI rd; cases relI re
    exact op_ge pins s σ H _ _ v u Q I rx ry ⟨_, _, rfl, rfl, a.val R rfl (.bl _)⟩
  · cases ez
theorem isNonD_iff {d : D} {v : V} (r : RelD T ρ H d v) : isNonD d = decide (v = .non) := by
  cases r <;> first | rfl | (symm; exact decide_eq_false (fun q => by cases q))
theorem op_isS : OpR X (compareOp .Is) (r2 T isS) := by
  intro pins s σ H x y v u Q I rx ry hr
  obtain ⟨ρ, h, d, e, R, rd, re, a⟩ := hr
  obtain ⟨z, h1, ez⟩ := a.ex
  unfold isS at ez a
  split at ez
  · cases relN re
    refine op_isN pins s σ H _ _ v u Q I rx ry ⟨rfl, ?_⟩
    rw [← isNonD_iff rd]
    exact a.val R rfl (.bl _)
  · cases ez
theorem op_isntS : OpR X (compareOp .IsNot) (r2 T isntS) := by
  intro pins s σ H x y v u Q I rx ry hr
  obtain ⟨ρ, h, d, e, R, rd, re, a⟩ := hr
  obtain ⟨z, h1, ez⟩ := a.ex
  unfold isntS at ez a
  split at ez
  · cases relN re
    refine op_notN pins s σ H _ _ v u Q I rx ry ⟨rfl, ?_⟩
    rw [← isNonD_iff rd]
    exact a.val R rfl (.bl _)
  · cases ez
theorem any_map {us : List Value} {e : Value → Bool} {bs : List Bool} (h : us.map e = bs) : us.toArray.any e = bs.any id := by
  rw [← h, List.any_toArray, List.any_map]; rfl
theorem in_run (hK : X.K = T.K) (hu : X.A.units + 200 < cLine) (I : Inv X pins σ H s) (R : Rp T ρ h H) {x y : D} {v w : V} {u w' : Value} {b : Bool} (e : inV h x y = some b) (rx : RelD T ρ H x v) (ry : RelD T ρ H y w) (ru : RelV v u) (rw' : RelV w w') :
    (∀ Q : Value → Shared → Prop, (∀ s', Inv X pins σ H s' → Q (.bool b) s') → wpAny (model X.prog X.w) X.A (compareOp .In u w') Q X.xe s) ∧ (∀ Q : Value → Shared → Prop, (∀ s', Inv X pins σ H s' → Q (.bool (!b)) s') → wpAny (model X.prog X.w) X.A (compareOp .NotIn u w') Q X.xe s) := by
  have hin : X.A.in1.units + 190 < cLine := by show X.A.units + 1 + 190 < cLine; omega
  unfold inV at e
  split at e
  · next m =>
    split at e
    · next c =>
      cases e
      obtain ⟨x', rfl, e1⟩ := relSt rx
      obtain ⟨y', rfl, e2⟩ := relSt ry
      obtain rfl : x' = ⟨#[c]⟩ := str_ext (by rw [e1])
      obtain ⟨t, rfl⟩ := ru
      obtain ⟨t', rfl⟩ := rw'
      rw [← e2]
      exact ⟨fun Q q => PyProof.Rows.in_str (by rw [show (!(Builtin.Str.occurrences y' ⟨#[c]⟩ 0 y'.length 1).isEmpty) = decide (c ∈ y'.cps.toList) from PySem.StrLaws.found_one y' c]; exact q s I),
        fun Q q => PyProof.Rows.notIn_str (by rw [show (!(Builtin.Str.occurrences y' ⟨#[c]⟩ 0 y'.length 1).isEmpty) = decide (c ∈ y'.cps.toList) from PySem.StrLaws.found_one y' c]; exact q s I)⟩
    · cases e
  · next ys =>
    cases ee : eqsWith h x ys with
    | none => rw [ee] at e; cases e
    | some bs =>
      rw [ee] at e; cases e
      obtain ⟨a, vs, rfl, ha, rs⟩ := relT ry
      obtain rfl : w' = Value.ref a := rw'
      obtain ⟨its, rv, it, _⟩ := I.tuple (.of ha)
      obtain ⟨f, hf, hm, _⟩ := eqsWith_at (A := X.A.in1) hK I R hin rx ru ee rs rv
      have hf' : ∀ y, y ∈ its.toArray → EqAt X.A.in1 s y u (f y) := fun y hy => hf y (by simpa using hy)
      exact ⟨fun Q q => in_tupleAt f (isTuple_of it) hf' (by rw [any_map hm]; exact q s I), fun Q q => notIn_tupleAt f (isTuple_of it) hf' (by rw [any_map hm]; exact q s I)⟩
  · next i =>
    split at e
    · next kvs ek =>
      cases ex : x.ky with
      | none => rw [ex] at e; cases e
      | some k =>
        rw [ex] at e; cases e
        obtain ⟨a, m, rfl, hd, rk⟩ := R.asK ry ek
        obtain rfl : w' = Value.ref a := rw'
        obtain ⟨q', hq, rfl⟩ := KyR.of rx ex
        have g : DGet H a (kV q') (valV m q') := .inl ⟨m, q', hd, rfl, rfl⟩
        dsimp only
        rw [← rk.some_iff hq]
        exact ⟨fun Q q => d_in (by omega) I g ru q, fun Q q => d_notIn (by omega) I g ru q⟩
    · split at e
      · next ys ey =>
        cases ee : eqsWith h x ys with
        | none => rw [ee] at e; cases e
        | some bs =>
          rw [ee] at e; cases e
          obtain ⟨a, vs, its, rfl, rv, il, rs⟩ := R.isList hK I ry ey
          obtain rfl : w' = Value.ref a := rw'
          obtain ⟨f, hf, hm, _⟩ := eqsWith_at (A := X.A.in1) hK I R hin rx ru ee rs rv
          have hf' : ∀ y, y ∈ its.toArray → EqAt X.A.in1 s y u (f y) := fun y hy => hf y (by simpa using hy)
          exact ⟨fun Q q => in_listAt f il hf' (by rw [any_map hm]; exact q s I), fun Q q => notIn_listAt f il hf' (by rw [any_map hm]; exact q s I)⟩
      · cases e
  · cases e
theorem op_inS (hK : X.K = T.K) (hu : X.A.units + 200 < cLine) : OpR X (compareOp .In) (r2 T inS) := by
  intro pins s σ H x y v u Q I rx ry hr
  obtain ⟨ρ, h, d, e, R, rd, re, a⟩ := hr
  obtain ⟨z, h1, ez⟩ := a.ex
  unfold inS at ez a
  cases et : inV h d e with
  | none => rw [et] at ez; cases ez
  | some b =>
    rw [et] at a
    exact (in_run hK hu I R et rd re rx ry).1 _ fun s' I' => ⟨.bl b, H, I', rfl, a.val R rfl (.bl b)⟩
theorem op_notInS (hK : X.K = T.K) (hu : X.A.units + 200 < cLine) : OpR X (compareOp .NotIn) (r2 T notInS) := by
  intro pins s σ H x y v u Q I rx ry hr
  obtain ⟨ρ, h, d, e, R, rd, re, a⟩ := hr
  obtain ⟨z, h1, ez⟩ := a.ex
  unfold notInS at ez a
  cases et : inV h d e with
  | none => rw [et] at ez; cases ez
  | some b =>
    rw [et] at a
    exact (in_run hK hu I R et rd re rx ry).2 _ fun s' I' => ⟨.bl (!b), H, I', rfl, a.val R rfl (.bl (!b))⟩
end
end Mi

set_option Elab.async false
set_option linter.all false
set_option maxRecDepth 100000
set_option maxHeartbeats 1000000
/-! Mi: items, slices, truth, lengths, isinstance, methods. -/
namespace Mi
open PySem PySem.Spec PyProof.Rows L2

/-! ### kinds -/
inductive Ty where
  | non | bl | int | str | tup | lst | dct
  deriving DecidableEq
def Ty.name : Ty → String
  | .non => "NoneType" | .bl => "bool" | .int => "int" | .str => "str" | .tup => "tuple" | .lst => "list" | .dct => "dict"
def tyD (h : Hh) : D → Option Ty
  | .non => some .non
  | .bl _ => some .bl
  | .int _ => some .int
  | .str _ => some .str
  | .tup _ => some .tup
  | .ref i => match h[i]? with
    | some (.lst _) => some .lst
    | some (.fro _) => some .lst
    | some (.dct false _) => some .dct
    | _ => none
  | .exn _ _ => none
def isTy (a b : Ty) : Bool := a == b || (a == .bl && b == .int)
theorem isTy_kit : ∀ a b : Ty, b ≠ .non → kitB a.name b.name = some (isTy a b) := by
  intro a b hb
  cases b <;> first | exact absurd rfl hb | (cases a <;> decide +kernel)

/-! ### items -/
def ixS : S2 := fun h x y => match x with
  | .str l => (match y with
    | .int i => if l.length ≤ sizeLine then (atI l i).map fun c => (.str [c], h) else none
    | _ => none)
  | .tup xs => (match y with
    | .int i => (atI xs i).map fun d => (d, h)
    | _ => none)
  | .ref _ => match asK h x with
    | some kvs => y.ky.bind fun k => (getKd kvs k).map fun d => (d, h)
    | none => match asL h x, y with
      | some xs, .int i => (atI xs i).map fun d => (d, h)
      | _, _ => none
  | _ => none
section
variable {T : Tab} {ρ : List Addr} {H : Hp} {h : Hh}
theorem atI_rel {ds : List D} {vs : List V} {i : Int} {d : D} (r : RelDs T ρ H ds vs) (e : atI ds i = some d) : ∃ v, atI vs i = some v ∧ RelD T ρ H d v := by
  unfold atI at e ⊢
  rw [← r.length]
  cases ei : ixN ds.length i with
  | none => rw [ei] at e; cases e
  | some j =>
    rw [ei] at e
    exact r.get e
end
section
variable {X : Cx} {T : Tab}
theorem ix_ixS (hK : X.K = T.K) (hu : X.A.units + 200 < cLine) : IxR X (r2 T ixS) := by
  intro value slice pins s σ H x y v u Q I rx ry hr hs
  obtain ⟨ρ, h, d, e, R, rd, re, a⟩ := hr
  obtain ⟨z, h1, ez⟩ := a.ex
  unfold ixS at ez a
  cases d with
  | str l =>
    cases e with
    | int i =>
      dsimp only at ez a
      by_cases hl : l.length ≤ sizeLine
      · rw [if_pos hl] at ez a
        cases ea : atI l i with
        | none => rw [ea] at ez; cases ez
        | some c =>
          rw [ea] at a
          obtain ⟨z', rfl, e1⟩ := relSt rd
          cases relI re
          exact ix_str value slice pins s σ H _ _ v u Q I rx ry ⟨z', i, c, rfl, rfl, by rw [str_len e1]; exact hl, by rw [e1]; exact ea, a.val R rfl (.str rfl)⟩ hs
      · rw [if_neg hl] at ez; cases ez
    | _ => cases ez
  | tup xs =>
    cases e with
    | int i =>
      dsimp only at ez a
      cases ea : atI xs i with
      | none => rw [ea] at ez; cases ez
      | some c =>
        rw [ea] at a
        obtain ⟨p, vs, rfl, hp, rs⟩ := relT rd
        cases relI re
        obtain ⟨w, ew, rw'⟩ := atI_rel rs ea
        exact ix_tup value slice pins s σ H _ _ v u Q I rx ry ⟨p, vs, i, w, rfl, rfl, .of hp, ew, a.val R rfl rw'⟩ hs
    | _ => cases ez
  | ref i =>
    dsimp only at ez a
    cases ek : asK h (.ref i) with
    | some kvs =>
      rw [ek] at ez a
      dsimp only at ez a
      cases ey : e.ky with
      | none => rw [ey] at ez; cases ez
      | some k =>
        rw [ey] at ez a
        dsimp only [Option.bind] at ez a
        cases eg : getKd kvs k with
        | none => rw [eg] at ez; cases ez
        | some d =>
          rw [eg] at a
          obtain ⟨p, m, rfl, hd, rk⟩ := R.asK rd ek
          obtain ⟨q', hq, rfl⟩ := KyR.of re ey
          obtain ⟨w, hw, rw'⟩ := (rk.get hq).1 d eg
          obtain rfl : v = Value.ref p := rx
          obtain ⟨_, _, vs, _, dd⟩ := dictObj I hd
          exact tail_any dd.typeIs PySem.F.slot_dict_getitem.lookup (d_getItem (by omega) I (.inl ⟨m, q', hd, rfl, hw.symm⟩) ry fun w' s' I' rw2 => ⟨w, H, I', rw2, a.val R rfl rw'⟩) hs
    | none =>
      rw [ek] at ez a
      dsimp only at ez a
      cases el : asL h (.ref i) with
      | none => rw [el] at ez; cases ez
      | some xs =>
        cases e with
        | int j =>
          rw [el] at ez a
          dsimp only at ez a
          cases ea : atI xs j with
          | none => rw [ea] at ez; cases ez
          | some c =>
            rw [ea] at a
            obtain ⟨p, vs, rfl, hp, rs⟩ := R.asL rd el
            cases relI re
            obtain ⟨w, ew, rw'⟩ := atI_rel rs ea
            exact ix_list value slice pins s σ H _ _ v u Q I rx ry ⟨p, vs, j, w, rfl, rfl, by rw [hK]; exact hp, ew, a.val R rfl rw'⟩ hs
        | _ => rw [el] at ez; cases ez
  | _ => cases ez
end
/-! ### slices -/
def cutL {α : Type} (xs : List α) (lo hi : Option Int) : List α := (xs.drop (HT.sIx xs.length 0 lo)).take (HT.sIx xs.length xs.length hi - HT.sIx xs.length 0 lo)
def slS (h : Hh) (x : D) (lo hi : Option Int) : Option (D × Hh) := match x with
  | .str l => if l.length ≤ sizeLine then some (.str (cutL l lo hi), h) else none
  | .tup xs => some (.tup (cutL xs lo hi), h)
  | .ref _ => (match asL h x with
    | some xs => some (.ref h.length, h ++ [.lst (cutL xs lo hi)])
    | none => none)
  | _ => none
def rSl (T : Tab) : V → Option Int → Option Int → Hp → VK → Prop := fun x lo hi H Q => ∃ ρ h d, Rp T ρ h H ∧ RelD T ρ H d x ∧ Ans T ρ H (slS h d lo hi) Q
section
variable {T : Tab} {ρ : List Addr} {H : Hp} {h : Hh}
theorem RelDs.cut {ds : List D} {vs : List V} (r : RelDs T ρ H ds vs) (lo hi : Option Int) : RelDs T ρ H (cutL ds lo hi) (cutV vs lo hi) := by
  unfold cutL cutV
  rw [r.length]
  exact (r.drop _).take _
theorem cut_whole {α : Type} {xs : List α} {lo hi : Option Int} (h : HT.sIx xs.length 0 lo = 0 ∧ HT.sIx xs.length xs.length hi = xs.length) : cutL xs lo hi = xs := by
  unfold cutL
  rw [h.1, h.2]
  simp
variable {X : Cx}
theorem sl_slS (hK : X.K = T.K) : SlR X (rSl T) := by
  intro pins s σ H x v vl vu lo hi sl Q I rx hs pl pu hr
  obtain ⟨ρ, h, d, R, rd, a⟩ := hr
  obtain ⟨z, h1, ez⟩ := a.ex
  unfold slS at ez a
  cases d with
  | str l =>
    dsimp only at ez a
    by_cases hl : l.length ≤ sizeLine
    · rw [if_pos hl] at ez a
      obtain ⟨z', rfl, e1⟩ := relSt rd
      refine sl_str pins s σ H _ v vl vu lo hi sl Q I rx hs pl pu ⟨z', rfl, by rw [str_len e1]; exact hl, a.val R rfl (.str ?_)⟩
      unfold cutS cutL
      rw [str_len e1, e1]
    · rw [if_neg hl] at ez; cases ez
  | tup xs =>
    obtain ⟨p, vs, rfl, hp, rs⟩ := relT rd
    dsimp only at a
    refine sl_tupA pins s σ H _ v vl vu lo hi sl Q I rx hs pl pu ⟨p, vs, rfl, .of hp, fun w => ?_, fun _ => a.tup R rfl (rs.cut lo hi)⟩
    rw [← rs.length] at w
    rw [cut_whole w] at a
    exact a.val R rfl (.tup hp rs)
  | ref i =>
    dsimp only at ez a
    cases el : asL h (.ref i) with
    | none => rw [el] at ez; cases ez
    | some xs =>
      rw [el] at a
      obtain ⟨p, vs, rfl, hp, rs⟩ := R.asL rd el
      exact sl_list pins s σ H _ v vl vu lo hi sl Q I rx hs pl pu ⟨p, vs, rfl, by rw [hK]; exact hp, a.lst R rfl (rs.cut lo hi)⟩
  | _ => cases ez
end
end Mi

set_option Elab.async false
set_option linter.all false
set_option maxRecDepth 100000
set_option maxHeartbeats 1000000
/-! Mi: truth, lengths, isinstance, built-ins, methods. -/
namespace Mi
open PySem PySem.Spec PyProof.Rows L2

/-! ### truth -/
def truD (h : Hh) : D → Option Bool
  | .non => some false
  | .bl b => some b
  | .int i => some (i != 0)
  | .str l => if l.length ≤ sizeLine then some (!l.isEmpty) else none
  | .tup xs => some (!xs.isEmpty)
  | .ref i => match asK h (.ref i) with
    | some kvs => some (!kvs.isEmpty)
    | none => (asL h (.ref i)).map fun xs => !xs.isEmpty
  | .exn _ _ => none
/-- a test of a value -/
def rTru (T : Tab) : V → Hp → (Bool → Hp → Prop) → Prop := fun x H Q => ∃ ρ h d b, Rp T ρ h H ∧ RelD T ρ H d x ∧ truD h d = some b ∧ Q b H
section
variable {X : Cx} {T : Tab} {ρ : List Addr} {H : Hp} {h : Hh}
theorem RelDs.isEmpty {ds : List D} {vs : List V} (r : RelDs T ρ H ds vs) : ds.isEmpty = vs.isEmpty := by
  cases r <;> rfl
theorem KVs.isEmpty {l : List (Ky × D)} {m : List (Key × V)} (r : KVs T ρ H l m) : l.isEmpty = m.isEmpty := by
  cases r <;> rfl
theorem tru_run (hK : X.K = T.K) {pins : List (Addr × Obj)} {σ : L2.St} {s : Shared} (I : Inv X pins σ H s) (R : Rp T ρ h H) {d : D} {v : V} {u : Value} {b : Bool} (rd : RelD T ρ H d v) (ru : RelV v u) (e : truD h d = some b) {Q : Bool → Shared → Prop} (q : ∀ s', Inv X pins σ H s' → Q b s') :
    wpAny (model X.prog X.w) X.A (truthy u) Q X.xe s := by
  have fin : ∀ (k : Bool) (s' : Shared), TP X pins σ (fun c H' => H' = H ∧ c = b) k s' → Q k s' := fun k s' ⟨H', I', e1, e2⟩ => by
    subst e1; subst e2; exact q s' I'
  cases d with
  | non => cases relN rd; cases e; exact thn (tru_ok pins s σ H _ u _ I ru ⟨false, rfl, rfl, rfl⟩) fin
  | bl c => cases relB rd; cases e; exact thn (tru_ok pins s σ H _ u _ I ru ⟨_, rfl, rfl, rfl⟩) fin
  | int i => cases relI rd; cases e; exact thn (tru_ok pins s σ H _ u _ I ru ⟨_, rfl, rfl, rfl⟩) fin
  | str l =>
    obtain ⟨z, rfl, e1⟩ := relSt rd
    unfold truD at e
    dsimp only at e
    by_cases hl : l.length ≤ sizeLine
    · rw [if_pos hl] at e; cases e
      refine thn (tru_ok pins s σ H _ u _ I ru ⟨!l.isEmpty, ⟨by rw [str_len e1]; exact hl, ?_⟩, rfl, rfl⟩) fin
      rw [str_len e1]
      cases l with
      | nil => rfl
      | cons c l => rw [List.length_cons]; symm; simp; omega
    · rw [if_neg hl] at e; cases e
  | tup xs =>
    obtain ⟨p, vs, rfl, hp, rs⟩ := relT rd
    cases e
    exact thn (tru_ok pins s σ H _ u _ I ru ⟨!xs.isEmpty, .inr (.inl ⟨vs, .of hp, by rw [rs.isEmpty]⟩), rfl, rfl⟩) fin
  | ref i =>
    unfold truD at e
    dsimp only at e
    cases ek : asK h (.ref i) with
    | some kvs =>
      rw [ek] at e; cases e
      obtain ⟨p, m, rfl, hd, rk⟩ := R.asK rd ek
      obtain rfl : u = Value.ref p := ru
      refine d_truth I hd fun s' I' => ?_
      rw [← rk.isEmpty]
      exact q s' I'
    | none =>
      rw [ek] at e
      cases el : asL h (.ref i) with
      | none => rw [el] at e; cases e
      | some xs =>
        rw [el] at e; cases e
        obtain ⟨p, vs, rfl, hp, rs⟩ := R.asL rd el
        exact thn (tru_ok pins s σ H _ u _ I ru ⟨!xs.isEmpty, .inl ⟨vs, by rw [hK]; exact hp, by rw [rs.isEmpty]⟩, rfl, rfl⟩) fin
  | exn c fs => cases e
end

/-! ### built-ins called with values -/
inductive Bi where
  | len | abs | int | min2 | max2 | sum | any | all | list | tuple | sset | dict | sortd | lzip | lrng
  deriving DecidableEq
def lenS : SN := fun h xs => match xs with
  | [.str l] => if l.length ≤ sizeLine then some (.int l.length, h) else none
  | [.tup xs] => some (.int xs.length, h)
  | [.ref i] => match asK h (.ref i) with
    | some kvs => some (.int kvs.length, h)
    | none => (asL h (.ref i)).map fun xs => (.int xs.length, h)
  | _ => none
def absS : SN := fun h xs => match xs with
  | [.int i] => some (.int (if i < 0 then -i else i), h)
  | _ => none
def intS : SN := fun h xs => match xs with
  | [.int i] => some (.int i, h)
  | [.bl b] => some (.int (if b then 1 else 0), h)
  | _ => none
def min2S : SN := fun h xs => match xs with
  | [.int i, .int j] => some (.int (if j < i then j else i), h)
  | [.str a, .str b] => some (.str (if b < a then b else a), h)
  | _ => none
def max2S : SN := fun h xs => match xs with
  | [.int i, .int j] => some (.int (if j > i then j else i), h)
  | [.str a, .str b] => some (.str (if a < b then b else a), h)
  | _ => none
def intsD : List D → Option (List Int)
  | [] => some []
  | .int i :: r => (intsD r).map (i :: ·)
  | _ :: _ => none
def blsD : List D → Option (List Bool)
  | [] => some []
  | .bl i :: r => (blsD r).map (i :: ·)
  | _ :: _ => none
def sumS : SN := fun h xs => match xs with
  | [x] => (asL h x).bind fun ds => (intsD ds).map fun ns => (.int ns.sum, h)
  | _ => none
def anyS : SN := fun h xs => match xs with
  | [x] => (asL h x).bind fun ds => (blsD ds).map fun ns => (.bl (ns.any id), h)
  | _ => none
def allS : SN := fun h xs => match xs with
  | [x] => (asL h x).bind fun ds => (blsD ds).map fun ns => (.bl (ns.all id), h)
  | _ => none
def listS : SN := fun h xs => match xs with
  | [.tup ds] => some (.ref h.length, h ++ [.lst ds])
  | [.ref i] => match asK h (.ref i) with
    | some kvs => some (.ref h.length, h ++ [.lst (kvs.map fun p => p.1.d)])
    | none => (asL h (.ref i)).map fun ds => (.ref h.length, h ++ [.lst ds])
  | _ => none
def tupleS : SN := fun h xs => match xs with
  | [.tup ds] => some (.tup ds, h)
  | [.ref i] => (asL h (.ref i)).map fun ds => (.tup ds, h)
  | _ => none
def strsD : List D → Option (List (List Nat))
  | [] => some []
  | .str l :: r => (strsD r).map (l :: ·)
  | _ :: _ => none
/-- put into an ascending list -/
def ins1 (x : List Nat) : List (List Nat) → List (List Nat)
  | [] => [x]
  | y :: r => if x < y then x :: y :: r else if x = y then y :: r else y :: ins1 x r
/-- ascending, each once -/
def ssort (l : List (List Nat)) : List (List Nat) := l.foldr ins1 []
/-- sorted(set(x)) -/
def ssetS : SN := fun h xs => match xs with
  | [x] => (asL h x).bind fun ds => (strsD ds).bind fun ls => if ls.length < 64 then some (.ref h.length, h ++ [.lst ((ssort ls).map D.str)]) else none
  | _ => none
def keysS : List (Ky × D) → Option (List (List Nat))
  | [] => some []
  | (.s l, _) :: r => (keysS r).map (l :: ·)
  | _ :: _ => none
/-- sorted(d) -/
def sortdS : SN := fun h xs => match xs with
  | [x] => (asK h x).bind fun kvs => (keysS kvs).bind fun ls => if ls.length < 64 ∧ ls.Nodup then some (.ref h.length, h ++ [.lst ((ssort ls).map D.str)]) else none
  | _ => none
def zipD (xs ys : List D) : List D := xs.zipWith (fun x y => .tup [x, y]) ys
/-- list(zip(x, y)) -/
def lzipS : SN := fun h xs => match xs with
  | [.tup as, .tup bs] => if as.length = bs.length then some (.ref h.length, h ++ [.lst (zipD as bs)]) else none
  | [.ref i, .ref j] => (asL h (.ref i)).bind fun as => (asL h (.ref j)).bind fun bs => if as.length = bs.length then some (.ref h.length, h ++ [.lst (zipD as bs)]) else none
  | _ => none
def rangeD (lo : Int) (n : Nat) : List D := (List.range n).map fun (i : Nat) => .int (lo + i)
/-- list(range(n)) -/
def lrngS : SN := fun h xs => match xs with
  | [.int n] => if -(2 ^ 62) ≤ n ∧ n ≤ 16777216 then some (.ref h.length, h ++ [.lst (rangeD 0 n.toNat)]) else none
  | _ => none
def mergeKd (l m : List (Ky × D)) : List (Ky × D) := m.foldl (fun acc p => putKd acc p.1 p.2) l
def pairsD : List D → Option (List (Ky × D))
  | [] => some []
  | .tup [k, d] :: r => k.ky.bind fun k => (pairsD r).map ((k, d) :: ·)
  | _ :: _ => none
/-- dict(x) -/
def dictS : SN := fun h xs => match xs with
  | [x] => match asK h x with
    | some kvs => some (.ref h.length, h ++ [.dct false kvs])
    | none => (asL h x).bind fun ds => (pairsD ds).map fun kvs => (.ref h.length, h ++ [.dct false (mergeKd [] kvs)])
  | _ => none
section
variable {X : Cx} {T : Tab} {ρ : List Addr} {H : Hp} {h : Hh}
theorem RelDs.one {d : D} {xs : List V} (r : RelDs T ρ H [d] xs) : ∃ x, xs = [x] ∧ RelD T ρ H d x := by
  cases r with
  | cons h t => cases t; exact ⟨_, rfl, h⟩
theorem RelDs.two {d e : D} {xs : List V} (r : RelDs T ρ H [d, e] xs) : ∃ x y, xs = [x, y] ∧ RelD T ρ H d x ∧ RelD T ρ H e y := by
  cases r with
  | cons h t => cases t with
    | cons h' t => cases t; exact ⟨_, _, rfl, h, h'⟩
theorem RelDs.ints : ∀ {ds : List D} {xs : List V} {ns : List Int}, RelDs T ρ H ds xs → intsD ds = some ns → xs = ns.map V.int
  | _, _, ns, .nil, e => by cases e; rfl
  | d :: ds, x :: xs, ns, .cons h t, e => by
    cases d with
    | int i =>
      unfold intsD at e
      cases e1 : intsD ds with
      | none => rw [e1] at e; cases e
      | some ms => rw [e1] at e; cases e; cases relI h; rw [RelDs.ints t e1]; rfl
    | _ => cases e
theorem RelDs.bls : ∀ {ds : List D} {xs : List V} {ns : List Bool}, RelDs T ρ H ds xs → blsD ds = some ns → xs = ns.map V.bl
  | _, _, ns, .nil, e => by cases e; rfl
  | d :: ds, x :: xs, ns, .cons h t, e => by
    cases d with
    | bl i =>
      unfold blsD at e
      cases e1 : blsD ds with
      | none => rw [e1] at e; cases e
      | some ms => rw [e1] at e; cases e; cases relB h; rw [RelDs.bls t e1]; rfl
    | _ => cases e
theorem Ans.bind {α : Type} {o : Option α} {f : α → Option (D × Hh)} {Q : VK} (a : Ans T ρ H (o.bind f) Q) : ∃ x, o = some x ∧ Ans T ρ H (f x) Q := by
  cases o with
  | none => obtain ⟨_, _, e, _⟩ := a; cases e
  | some x => exact ⟨x, rfl, a⟩
theorem Ans.map {α : Type} {o : Option α} {f : α → D × Hh} {Q : VK} (a : Ans T ρ H (o.map f) Q) : ∃ x, o = some x ∧ Ans T ρ H (some (f x)) Q := by
  cases o with
  | none => obtain ⟨_, _, e, _⟩ := a; cases e
  | some x => exact ⟨x, rfl, a⟩
theorem Ans.no {Q : VK} (a : Ans T ρ H none Q) : False := by
  obtain ⟨_, _, e, _⟩ := a; cases e
theorem Ans.ite {c : Prop} [Decidable c] {r : Option (D × Hh)} {Q : VK} (a : Ans T ρ H (if c then r else none) Q) : c ∧ Ans T ρ H r Q := by
  by_cases hc : c
  · rw [if_pos hc] at a; exact ⟨hc, a⟩
  · rw [if_neg hc] at a; exact a.no.elim
theorem cr_lenS (hK : X.K = T.K) : CallR X (.builtin "len") (rN T lenS) := by
  intro pins s σ H xs us Q I r hr
  obtain ⟨ρ, h, ds, R, rd, a⟩ := hr
  unfold lenS at a
  split at a
  · obtain ⟨hl, a⟩ := a.ite
    obtain ⟨x, rfl, rx⟩ := rd.one
    obtain ⟨z, rfl, e1⟩ := relSt rx
    refine call_len pins s σ H _ us Q I r ⟨_, _, rfl, ⟨by rw [str_len e1]; exact hl, rfl⟩, ?_⟩
    rw [str_len e1]
    exact a.val R rfl (.int _)
  · obtain ⟨x, rfl, rx⟩ := rd.one
    obtain ⟨p, vs, rfl, hp, rs⟩ := relT rx
    refine call_len pins s σ H _ us Q I r ⟨_, _, rfl, .inr ⟨vs, .of hp, rfl⟩, ?_⟩
    rw [← rs.length]
    exact a.val R rfl (.int _)
  · obtain ⟨x, rfl, rx⟩ := rd.one
    split at a
    · next kvs ek =>
      obtain ⟨p, m, rfl, hd, rk⟩ := R.asK rx ek
      obtain ⟨u, rfl, ru⟩ := vals1 r
      obtain rfl : u = Value.ref p := ru
      refine d_len I hd fun t s' I' => ⟨.int m.length, H, I', ⟨t, rfl⟩, ?_⟩
      rw [← rk.length]
      exact a.val R rfl (.int _)
    · obtain ⟨ys, el, a⟩ := a.map
      obtain ⟨p, vs, rfl, hp, rs⟩ := R.asL rx el
      refine call_len pins s σ H _ us Q I r ⟨_, _, rfl, .inl ⟨vs, by rw [hK]; exact hp, rfl⟩, ?_⟩
      rw [← rs.length]
      exact a.val R rfl (.int _)
  · exact a.no.elim
theorem cr_absS : CallR X (.builtin "abs") (rN T absS) := by
  intro pins s σ H xs us Q I r hr
  obtain ⟨ρ, h, ds, R, rd, a⟩ := hr
  unfold absS at a
  split at a
  · obtain ⟨x, rfl, rx⟩ := rd.one
    cases relI rx
    exact call_abs pins s σ H _ us Q I r ⟨_, rfl, a.val R rfl (.int _)⟩
  · exact a.no.elim
theorem cr_intS : CallR X (.type "int") (rN T intS) := by
  intro pins s σ H xs us Q I r hr
  obtain ⟨ρ, h, ds, R, rd, a⟩ := hr
  unfold intS at a
  split at a
  · obtain ⟨x, rfl, rx⟩ := rd.one
    cases relI rx
    exact call_int1 pins s σ H _ us Q I r (.inl ⟨_, rfl, a.val R rfl (.int _)⟩)
  · obtain ⟨x, rfl, rx⟩ := rd.one
    cases relB rx
    exact call_int1 pins s σ H _ us Q I r (.inr ⟨_, rfl, a.val R rfl (.int _)⟩)
  · exact a.no.elim
theorem cr_min2S (hc : X.calm = true) : CallR X (.builtin "min") (rN T min2S) := by
  intro pins s σ H xs us Q I r hr
  obtain ⟨ρ, h, ds, R, rd, a⟩ := hr
  unfold min2S at a
  split at a
  · obtain ⟨x, y, rfl, rx, ry⟩ := rd.two
    cases relI rx; cases relI ry
    exact call_min2 hc pins s σ H _ us Q I r ⟨_, _, rfl, a.val R rfl (.int _)⟩
  · next l m =>
    obtain ⟨x, y, rfl, rx, ry⟩ := rd.two
    obtain ⟨x, rfl, ex⟩ := relSt rx
    obtain ⟨y, rfl, ey⟩ := relSt ry
    refine cr_min2s hc pins s σ H _ us Q I r ⟨x, y, rfl, a.val R rfl (.str ?_)⟩
    rw [ex, ey]
    split
    · exact ey
    · exact ex
  · exact a.no.elim
theorem cr_max2S (hc : X.calm = true) : CallR X (.builtin "max") (rN T max2S) := by
  intro pins s σ H xs us Q I r hr
  obtain ⟨ρ, h, ds, R, rd, a⟩ := hr
  unfold max2S at a
  split at a
  · obtain ⟨x, y, rfl, rx, ry⟩ := rd.two
    cases relI rx; cases relI ry
    exact call_max2 hc pins s σ H _ us Q I r ⟨_, _, rfl, a.val R rfl (.int _)⟩
  · next l m =>
    obtain ⟨x, y, rfl, rx, ry⟩ := rd.two
    obtain ⟨x, rfl, ex⟩ := relSt rx
    obtain ⟨y, rfl, ey⟩ := relSt ry
    refine cr_max2s hc pins s σ H _ us Q I r ⟨x, y, rfl, a.val R rfl (.str ?_)⟩
    rw [ex, ey]
    split
    · exact ey
    · exact ex
  · exact a.no.elim
theorem cr_sumS (hc : X.calm = true) (hK : X.K = T.K) : CallR X (.builtin "sum") (rN T sumS) := by
  intro pins s σ H xs us Q I r hr
  obtain ⟨ρ, h, ds, R, rd, a⟩ := hr
  unfold sumS at a
  split at a
  · obtain ⟨x, rfl, rx⟩ := rd.one
    obtain ⟨ys, el, a⟩ := a.bind
    obtain ⟨ns, en, a⟩ := a.map
    obtain ⟨p, vs, rfl, hp, rs⟩ := R.asL rx el
    have := rs.ints en
    subst this
    exact cr_sum hc pins s σ H _ us Q I r ⟨p, ns, rfl, by rw [hK]; exact hp, a.val R rfl (.int _)⟩
  · exact a.no.elim
theorem cr_anyS (hc : X.calm = true) (hK : X.K = T.K) : CallR X (.builtin "any") (rN T anyS) := by
  intro pins s σ H xs us Q I r hr
  obtain ⟨ρ, h, ds, R, rd, a⟩ := hr
  unfold anyS at a
  split at a
  · obtain ⟨x, rfl, rx⟩ := rd.one
    obtain ⟨ys, el, a⟩ := a.bind
    obtain ⟨ns, en, a⟩ := a.map
    obtain ⟨p, vs, rfl, hp, rs⟩ := R.asL rx el
    have := rs.bls en
    subst this
    exact cr_any hc pins s σ H _ us Q I r ⟨p, ns, rfl, by rw [hK]; exact hp, a.val R rfl (.bl _)⟩
  · exact a.no.elim
theorem cr_allS (hc : X.calm = true) (hK : X.K = T.K) : CallR X (.builtin "all") (rN T allS) := by
  intro pins s σ H xs us Q I r hr
  obtain ⟨ρ, h, ds, R, rd, a⟩ := hr
  unfold allS at a
  split at a
  · obtain ⟨x, rfl, rx⟩ := rd.one
    obtain ⟨ys, el, a⟩ := a.bind
    obtain ⟨ns, en, a⟩ := a.map
    obtain ⟨p, vs, rfl, hp, rs⟩ := R.asL rx el
    have := rs.bls en
    subst this
    exact cr_all hc pins s σ H _ us Q I r ⟨p, ns, rfl, by rw [hK]; exact hp, a.val R rfl (.bl _)⟩
  · exact a.no.elim
theorem keys_rel {kvs : List (Ky × D)} {m : List (Key × V)} (r : KVs T ρ H kvs m) : RelDs T ρ H (kvs.map fun p => p.1.d) (m.map fun kv => kV kv.1) := by
  induction r with
  | nil => exact .nil
  | cons hk _ _ ih => exact .cons hk.rel ih
theorem cr_listS (hK : X.K = T.K) (hc : X.calm = true) : CallR X (.type "list") (rN T listS) := by
  intro pins s σ H xs us Q I r hr
  obtain ⟨ρ, h, ds, R, rd, a⟩ := hr
  unfold listS at a
  split at a
  · obtain ⟨x, rfl, rx⟩ := rd.one
    obtain ⟨p, vs, rfl, hp, rs⟩ := relT rx
    exact call_list_of pins s σ H _ us Q I r ⟨p, vs, rfl, .inr (.of hp), a.lst R rfl rs⟩
  · obtain ⟨x, rfl, rx⟩ := rd.one
    split at a
    · next kvs ek =>
      obtain ⟨p, m, rfl, hd, rk⟩ := R.asK rx ek
      exact call_listD hc pins s σ H _ us Q I r ⟨p, m, rfl, hd, a.lst R rfl (keys_rel rk)⟩
    · obtain ⟨ys, el, a⟩ := a.map
      obtain ⟨p, vs, rfl, hp, rs⟩ := R.asL rx el
      exact call_list_of pins s σ H _ us Q I r ⟨p, vs, rfl, .inl (by rw [hK]; exact hp), a.lst R rfl rs⟩
  · exact a.no.elim
theorem cr_tupleS (hK : X.K = T.K) : CallR X (.type "tuple") (rN T tupleS) := by
  intro pins s σ H xs us Q I r hr
  obtain ⟨ρ, h, ds, R, rd, a⟩ := hr
  unfold tupleS at a
  split at a
  · obtain ⟨x, rfl, rx⟩ := rd.one
    obtain ⟨p, vs, rfl, hp, rs⟩ := relT rx
    exact call_tuple_of pins s σ H _ us Q I r ⟨p, vs, rfl, .inr ⟨.of hp, a.val R rfl (.tup hp rs)⟩⟩
  · obtain ⟨x, rfl, rx⟩ := rd.one
    obtain ⟨ys, el, a⟩ := a.map
    obtain ⟨p, vs, rfl, hp, rs⟩ := R.asL rx el
    exact call_tuple_of pins s σ H _ us Q I r ⟨p, vs, rfl, .inl ⟨by rw [hK]; exact hp, a.tup R rfl rs⟩⟩
  · exact a.no.elim
end
section
variable {T : Tab} {ρ : List Addr} {H : Hp} {h : Hh}
theorem RelDs.strs : ∀ {ds : List D} {xs : List V} {ls : List (List Nat)}, RelDs T ρ H ds xs → strsD ds = some ls → ∃ ys : List Str, xs = ys.map V.str ∧ ys.map (fun y => y.cps.toList) = ls
  | _, _, _, .nil, e => by cases e; exact ⟨[], rfl, rfl⟩
  | .str l :: ds, _, ls, .cons r rs, e => by
    unfold strsD at e
    obtain ⟨ls', e1, rfl⟩ := Option.map_eq_some_iff.mp e
    obtain ⟨y, rfl, ey⟩ := relSt r
    obtain ⟨ys, rfl, ez⟩ := rs.strs e1
    exact ⟨y :: ys, rfl, by rw [List.map_cons, ey, ez]⟩
  | .non :: _, _, _, _, e => by cases e
  | .bl _ :: _, _, _, _, e => by cases e
  | .int _ :: _, _, _, _, e => by cases e
  | .tup _ :: _, _, _, _, e => by cases e
  | .ref _ :: _, _, _, _, e => by cases e
  | .exn _ _ :: _, _, _, _, e => by cases e
theorem rel_strs : ∀ (ys : List Str), RelDs T ρ H ((ys.map fun y => y.cps.toList).map D.str) (ys.map V.str)
  | [] => .nil
  | y :: ys => .cons (.str rfl) (rel_strs ys)
end
/-! ### isinstance of a built-in class -/
def isiS (t : Ty) : Hh → D → Option (D × Hh) := fun h x => if t = .non then none else (tyD h x).map fun a => (.bl (isTy a t), h)
section
variable {X : Cx} {T : Tab} {ρ : List Addr} {H : Hp} {h : Hh}
theorem tyD_of (R : Rp T ρ h H) {d : D} {v : V} {a : Ty} (rd : RelD T ρ H d v) (e : tyD h d = some a) : TyOf X.K H v (.type a.name) := by
  cases rd with
  | non => cases e; exact .non
  | bl b => cases e; exact .bl b
  | int i => cases e; exact .int i
  | str _ => cases e; exact .str _
  | tup hp _ => cases e; exact .tup hp
  | @ref i p hp =>
    obtain ⟨o, ho, k⟩ := R.obj hp
    unfold tyD at e
    dsimp only at e
    rw [ho] at e
    cases k with
    | lst h _ => cases e; exact .lst h
    | fro h _ => cases e; exact .frz h
    | dct h _ => cases e; exact .dK h
    | dcl h _ => cases e
  | exn _ => cases e
  | exf _ _ _ _ => cases e
def isiN (t : Ty) : SN := fun h xs => match xs with
  | [x] => isiS t h x
  | _ => none
/-- isinstance(x, T): the class is the second argument -/
theorem isi_run {pins : List (Addr × Obj)} {σ : L2.St} {s : Shared} (I : Inv X pins σ H s) (R : Rp T ρ h H) {t : Ty} {d : D} {v : V} {u : Value} (rd : RelD T ρ H d v) (ru : RelV v u) {Q : VK} (a : Ans T ρ H (isiS t h d) Q) :
    wpAny (model X.prog X.w) X.A (call (.builtin "isinstance") [u, .type t.name]) (EP X pins σ Q) X.xe s := by
  unfold isiS at a
  by_cases ht : t = .non
  · rw [if_pos ht] at a; exact a.no.elim
  · rw [if_neg ht] at a
    obtain ⟨ty, ety, a⟩ := a.map
    exact isinst_ok I ru (tyD_of R rd ety) (kit_ty (isTy_kit ty t ht)) fun tk => ⟨.bl (isTy ty t), H, I.tok tk, rfl, a.val R rfl (.bl _)⟩
end
end Mi

set_option Elab.async false
set_option linter.all false
set_option maxRecDepth 100000
set_option maxHeartbeats 1000000
/-! Mi: methods of lists and dicts. -/
namespace Mi
open PySem PySem.Spec PyProof.Rows L2

inductive Mt where
  | append | extend | pop | count | index | get | setdefault | join
  deriving DecidableEq
def Mt.name : Mt → String
  | .append => "append" | .extend => "extend" | .pop => "pop" | .count => "count" | .index => "index" | .get => "get" | .setdefault => "setdefault" | .join => "join"
/-- a receiver's kind -/
def recT (h : Hh) : D → Option Ty
  | .str _ => some .str
  | .ref i => match h[i]? with
    | some (.lst _) => some .lst
    | some (.fro _) => some .lst
    | some (.dct _ _) => some .dct
    | none => none
  | _ => none
def mtS : Mt → Ty → SN
  | .append, .lst => fun h xs => match xs with
    | [.ref i, d] => (match h[i]? with
      | some (.lst ys) => if ys.length < sizeLine then some (.non, h.set i (.lst (ys ++ [d]))) else none
      | _ => none)
    | _ => none
  | .extend, .lst => fun h xs => match xs with
    | [.ref i, .tup zs] => (match h[i]? with
      | some (.lst ys) => if ys.length + zs.length ≤ sizeLine then some (.non, h.set i (.lst (ys ++ zs))) else none
      | _ => none)
    | [.ref i, .ref j] => (match h[i]?, h[j]? with
      | some (.lst ys), some (.lst zs) => if ys.length + zs.length ≤ sizeLine then some (.non, h.set i (.lst (ys ++ zs))) else none
      | _, _ => none)
    | _ => none
  | .pop, .lst => fun h xs => match xs with
    | [.ref i] => (match h[i]? with
      | some (.lst ys) => (ys[ys.length - 1]?).map fun d => (d, h.set i (.lst ys.dropLast))
      | _ => none)
    | _ => none
  | .count, .lst => fun h xs => match xs with
    | [x, y] => (asL h x).bind fun ys => (eqsWith h y ys).map fun bs => (.int (bs.countP id : Nat), h)
    | _ => none
  | .index, .lst => fun h xs => match xs with
    | [x, y] => (asL h x).bind fun ys => (eqsWith h y ys).bind fun bs => if bs.length ≤ sizeLine then (bs.findIdx? id).map fun j => (.int (j : Nat), h) else none
    | _ => none
  | .get, .dct => fun h xs => match xs with
    | [x, k] => (asK h x).bind fun kvs => k.ky.map fun k => ((getKd kvs k).getD .non, h)
    | [x, k, d] => (asK h x).bind fun kvs => match k with
      | .non => some (d, h)
      | k => k.ky.map fun k => ((getKd kvs k).getD d, h)
    | _ => none
  | .setdefault, .dct => fun h xs => match xs with
    | [.ref i, k, d] => (match h[i]? with
      | some (.dct false kvs) => k.ky.bind fun k => if kvs.length < sizeLine then some (match getKd kvs k with
        | some e => (e, h)
        | none => (d, h.set i (.dct false (putKd kvs k d)))) else none
      | _ => none)
    | _ => none
  | .join, .str => fun h xs => match xs with
    | [.str a, y] => (asL h y).bind fun ds => (strsD ds).bind fun ls => if (ls.map List.length).sum + ls.length * a.length ≤ 16777216 then some (.str (TL.joinL a ls), h) else none
    | _ => none
  | _, _ => fun _ _ => none
section
variable {T : Tab} {ρ : List Addr} {H : Hp} {h : Hh} {Q : VK}
theorem Aft.set (R : Rp T ρ h H) {i : Nat} {a : Addr} (ha : ρ[i]? = some a) {u v : HO} (hv : H a = some v) (hc : Wri v) {o : O} (k : OkO T ρ (upd H a u) a o) : Aft T ρ H ρ (h.set i o) (upd H a u) :=
  ⟨List.prefix_refl _, Ext.chg hv hc, R.store ha hv hc k⟩
theorem Aft.setL (R : Rp T ρ h H) {i : Nat} {a : Addr} (ha : ρ[i]? = some a) {vs ws : List V} {ys : List D} (hv : H a = some (.lst vs)) (r : RelDs T ρ H ys ws) : Aft T ρ H ρ (h.set i (.lst ys)) (upd H a (.lst ws)) :=
  Aft.set R ha hv trivial (.lst upd_same (r.mono (List.prefix_refl _) (Ext.chg hv trivial)))
theorem Aft.setK (R : Rp T ρ h H) {i : Nat} {a : Addr} (ha : ρ[i]? = some a) {m m' : List (Key × V)} {ys : List (Ky × D)} (hv : H a = some (.dK m)) (r : KVs T ρ H ys m') : Aft T ρ H ρ (h.set i (.dct false ys)) (upd H a (.dK m')) :=
  Aft.set R ha hv trivial (.dct upd_same (r.mono (List.prefix_refl _) (Ext.chg hv trivial)))
theorem getLast_rel {ds : List D} {vs : List V} {d : D} (r : RelDs T ρ H ds vs) (e : ds[ds.length - 1]? = some d) : ∃ v, vs[vs.length - 1]? = some v ∧ RelD T ρ H d v := by
  rw [← r.length]; exact r.get e
end
open PySem.AutoSeq1 in
theorem extend_tup (l b : Addr) (its its2 : Array Value) (n n2 : Nat) (dd : Option Addr) (sl : Array (Option Value)) (h0 : ¬ (!its.isEmpty && Builtin.List.listTooLong (its.size + its2.size)) = true) (h1 : its.size ≤ sizeLine) (h2 : its.size + its2.size ≤ sizeLine) :
    Meets (Builtin.«list.extend» ⟨[.ref l, .ref b], []⟩) (fun _ R s => s.heap.get? l = some { cls := .type "list", data := .seq its n } ∧ s.heap.get? b = some { cls := .type "tuple", dict := dd, data := .seq its2 n2, slots := sl } ∧
      R (.ok (.ret Value.none)) { s with heap := s.heap.update l (Obj.mapSeq fun x => x ++ its2), toks := s.toks }) := .of_wp fun prog w A R s h => by
  obtain ⟨hp, g, d, tk, os⟩ := s
  obtain ⟨hl, hb, h⟩ := h
  have f1 := AutoSeq1.idx_int
  have f2 := AutoSeq1.sub_tuple_tuple
  have f3 := AutoSeq1.sub_list_list
  have f4 := AutoSeq1.sub_tuple_list
  have f5 := AutoSeq1.sub_list_tuple
  have hz : (its ++ its2).size ≤ sizeLine + 1 := by rw [Array.size_append]; omega
  wp_walk using (wpAny_updateSeq hl rfl (hz := h1) (_hz' := hz)), wpAny_loadPart' hl, wpAny_loadPart' hb
  exact ⟨_, rfl, h⟩
section
variable {X : Cx} {T : Tab}
open PySem.SeqAt in
theorem mt_ok (hK : X.K = T.K) (hu : X.A.units + 200 < cLine) (m : Mt) (ty : Ty) : (∀ h xs, mtS m ty h xs = none) ∨ ∃ id, PlainAttrs ty.name ∧ Slot ty.name (Str.ofString m.name) id ∧ typeOf (.builtin id) = pure (.type "method_descriptor") ∧
    ∀ (pins : List (Addr × Obj)) (s : Shared) (σ : L2.St) (H : Hp) (ρ : List Addr) (h : Hh) (d : D) (ds : List D) (x : V) (xs : List V) (v : Value) (us : List Value) (Q : VK), Inv X pins σ H s → Rp T ρ h H → RelD T ρ H d x → RelDs T ρ H ds xs → RelV x v → Vals xs us → Ans T ρ H (mtS m ty h (d :: ds)) Q →
      wpAny (model X.prog X.w) X.A (call (.builtin id) (v :: us)) (EP X pins σ Q) X.xe s := by
  have hin : X.A.in1.units + 190 < cLine := by show X.A.units + 1 + 190 < cLine; omega
  cases m <;> cases ty <;> first | exact .inl fun _ _ => rfl | skip
  · -- append
    refine .inr ⟨_, PySem.F.plainAttrs_list, PySem.F.slot_list_append, PySem.F.type_list_append, fun pins s σ H ρ h d ds x xs v us Q I R rd rds rx rv a => ?_⟩
    unfold mtS at a
    dsimp only at a
    split at a
    · next i e heq =>
      cases heq
      split at a
      · next ys ei =>
        obtain ⟨hl, a⟩ := a.ite
        obtain ⟨y, rfl, ry⟩ := rds.one
        obtain ⟨p, vs, rfl, hp, hv, rs⟩ := R.lst rd ei
        obtain ⟨z, h', ez, q⟩ := a
        cases ez
        exact mt_append pins s σ H _ _ v us Q I rx rv ⟨p, vs, y, rfl, rfl, hv, by rw [← rs.length]; exact hl, q _ _ _ (Aft.setL R hp hv (rs.append (.cons ry .nil))) .non⟩
      · exact a.no.elim
    · exact a.no.elim
  · -- extend
    refine .inr ⟨_, PySem.F.plainAttrs_list, PySem.F.slot_list_extend, PySem.F.type_list_extend, fun pins s σ H ρ h d ds x xs v us Q I R rd rds rx rv a => ?_⟩
    unfold mtS at a
    dsimp only at a
    split at a
    · next i zs heq =>
      cases heq
      split at a
      · next ys ei =>
        obtain ⟨hl, a⟩ := a.ite
        obtain ⟨y, rfl, ry⟩ := rds.one
        obtain ⟨p, vs, rfl, hp, hv, rs⟩ := R.lst rd ei
        obtain ⟨p2, ws, rfl, hv2, rs2⟩ := relT ry
        obtain ⟨z, h', ez, q⟩ := a
        cases ez
        cases rx
        obtain ⟨u, rfl, ru⟩ := rv.one
        cases ru
        obtain ⟨z1, its, n, r, hl1, e⟩ := I.lstM hv
        obtain ⟨its2, r2, it2, z2⟩ := I.tuple (.of hv2)
        obtain ⟨⟨cls, dd, data, sl⟩, ho2, hc2, n2, hd2⟩ := id it2
        simp only at hc2 hd2
        subst hc2 hd2
        have e1 := rs.length
        have e2 := rs2.length
        have e4 := r2.length
        have hsz : its.toArray.size + its2.toArray.size ≤ sizeLine := by rw [List.size_toArray, List.size_toArray]; omega
        have hlong : ¬ (!its.toArray.isEmpty && Builtin.List.listTooLong (its.toArray.size + its2.toArray.size)) = true := by
          rw [notLongL hsz, Bool.and_false]
          exact Bool.false_ne_true
        refine call_meets PySem.F.slot_list_extend ⟨_, e, rfl⟩ PySem.F.entry_list_extend (PySem.F.args_list_extend_2 _ _) (extend_tup p p2 its.toArray its2.toArray n n2 dd sl hlong (by rw [List.size_toArray]; omega) hsz) ⟨e, ho2, ?_⟩
        have af := Aft.setL R hp hv (rs.append rs2)
        refine ⟨.non, _, I.lset (its' := its ++ its2) hv e (by simp) (r.append r2) ?_, rfl, q _ _ _ af .non⟩
        rw [List.length_append]
        omega
      · exact a.no.elim
    · next i j heq =>
      cases heq
      split at a
      · next ys zs ei ej =>
        obtain ⟨hl, a⟩ := a.ite
        obtain ⟨y, rfl, ry⟩ := rds.one
        obtain ⟨p, vs, rfl, hp, hv, rs⟩ := R.lst rd ei
        obtain ⟨p2, ws, rfl, hp2, hv2, rs2⟩ := R.lst ry ej
        obtain ⟨z, h', ez, q⟩ := a
        cases ez
        exact mt_extend pins s σ H _ _ v us Q I rx rv ⟨p, p2, vs, ws, rfl, rfl, hv, hv2, by rw [← rs.length, ← rs2.length]; exact hl, q _ _ _ (Aft.setL R hp hv (rs.append rs2)) .non⟩
      · exact a.no.elim
    · exact a.no.elim
  · -- pop
    refine .inr ⟨_, PySem.F.plainAttrs_list, PySem.F.slot_list_pop, PySem.F.type_list_pop, fun pins s σ H ρ h d ds x xs v us Q I R rd rds rx rv a => ?_⟩
    unfold mtS at a
    dsimp only at a
    split at a
    · next i heq =>
      cases heq
      split at a
      · next ys ei =>
        obtain ⟨e, ey, a⟩ := a.map
        cases rds
        obtain ⟨p, vs, rfl, hp, hv, rs⟩ := R.lst rd ei
        obtain ⟨y, hy, ry⟩ := getLast_rel rs ey
        obtain ⟨z, h', ez, q⟩ := a
        cases ez
        have af := Aft.setL R hp hv rs.dropLast
        exact mt_pop pins s σ H _ _ v us Q I rx rv ⟨p, vs, y, rfl, rfl, hv, hy, q _ _ _ af (af.d ry)⟩
      · exact a.no.elim
    · exact a.no.elim
  · -- count
    refine .inr ⟨_, PySem.F.plainAttrs_list, PySem.F.slot_list_count, PySem.F.type_list_count, fun pins s σ H ρ h d ds x xs v us Q I R rd rds rx rv a => ?_⟩
    unfold mtS at a
    dsimp only at a
    split at a
    · next d' y heq =>
      cases heq
      obtain ⟨ys, el, a1⟩ := a.bind
      obtain ⟨bs, eb, a2⟩ := a1.map
      obtain ⟨w, rfl, rw'⟩ := rds.one
      cases d with
      | ref i =>
        obtain ⟨p, vs, its, rfl, rvs, il, rs⟩ := R.isList hK I rd el
        cases rx
        obtain ⟨u, rfl, ru⟩ := rv.one
        obtain ⟨f, hf, hm, _⟩ := eqsWith_at (A := X.A.in1) hK I R hin rw' ru eb rs rvs
        obtain ⟨⟨cls, dd, data, sl⟩, ho, hc, n, hd⟩ := id il
        simp only at hc hd
        subst hc hd
        refine call_meets PySem.F.slot_list_count ⟨_, ho, rfl⟩ PySem.F.entry_list_count (PySem.F.args_list_count_2 _ _) (list_countAt p its.toArray n dd sl u f) ⟨ho, fun y hy => hf y (by simpa using hy), ?_⟩
        refine ⟨.int (bs.countP id : Nat), H, I.tok _, ⟨s.toks, ?_⟩, a2.val R rfl (.int _)⟩
        rw [← hm, List.countP_map]
        rfl
      | _ => cases el
    · exact a.no.elim
  · -- index
    refine .inr ⟨_, PySem.F.plainAttrs_list, PySem.F.slot_list_index, PySem.F.type_list_index, fun pins s σ H ρ h d ds x xs v us Q I R rd rds rx rv a => ?_⟩
    unfold mtS at a
    dsimp only at a
    split at a
    · next d' y heq =>
      cases heq
      obtain ⟨ys, el, a1⟩ := a.bind
      obtain ⟨bs, eb, a2⟩ := a1.bind
      obtain ⟨hlen, a3⟩ := a2.ite
      obtain ⟨j, ej, a4⟩ := a3.map
      obtain ⟨w, rfl, rw'⟩ := rds.one
      cases d with
      | ref i =>
        obtain ⟨p, vs, its, rfl, rvs, il, rs⟩ := R.isList hK I rd el
        cases rx
        obtain ⟨u, rfl, ru⟩ := rv.one
        obtain ⟨f, hf, hm, _⟩ := eqsWith_at (A := X.A.in1) hK I R hin rw' ru eb rs rvs
        obtain ⟨⟨cls, dd, data, sl⟩, ho, hc, n, hd⟩ := id il
        simp only at hc hd
        subst hc hd
        have hl : its.length = bs.length := by rw [← hm, List.length_map]
        have hat : ∀ k (hk : k < its.length), f its[k] = bs[k]'(by rw [← hl]; exact hk) := fun k hk => by
          subst hm
          rw [List.getElem_map]
        obtain ⟨hj, hjt, hjn⟩ := List.findIdx?_eq_some_iff_getElem.mp ej
        have h16 : sizeLine = 16777216 := sizeLine_eq
        refine call_meets PySem.F.slot_list_index ⟨_, ho, rfl⟩ PySem.F.entry_list_index (PySem.F.args_list_index_2 _ _)
          (list_indexAt p its.toArray n dd sl u f j (by rw [List.size_toArray, hl]; exact hj) (by omega) (by rw [List.getElem_toArray, hat]; exact hjt) (fun k hk hkj => by
            rw [List.size_toArray] at hk
            rw [List.getElem_toArray, hat]
            simpa using hjn k hkj)) ⟨ho, fun y hy => hf y (by simpa using hy), ?_⟩
        exact ⟨.int (j : Nat), H, I.tok _, ⟨_, rfl⟩, a4.val R rfl (.int _)⟩
      | _ => cases el
    · exact a.no.elim
  · -- get
    refine .inr ⟨_, PySem.F.plainAttrs_dict, PySem.F.slot_dict_get, PySem.F.type_dict_get, fun pins s σ H ρ h d ds x xs v us Q I R rd rds rx rv a => ?_⟩
    unfold mtS at a
    dsimp only at a
    split at a
    · next d' y heq =>
      cases heq
      obtain ⟨kvs, ek, a⟩ := a.bind
      obtain ⟨k, eky, a⟩ := a.map
      obtain ⟨w, rfl, rw'⟩ := rds.one
      obtain ⟨p, m, rfl, hd, rk⟩ := R.asK rd ek
      cases rx
      obtain ⟨u, rfl, ru⟩ := rv.one
      obtain ⟨q', hq, rfl⟩ := KyR.of rw' eky
      refine d_get1 (by omega) I (.inl ⟨m, q', hd, rfl, rfl⟩) ru fun w' s' I' rw2 => ⟨_, H, I', rw2, a.val R rfl ?_⟩
      cases eg : getKd kvs k with
      | none => rw [(rk.get hq).2 eg]; exact .non
      | some e => obtain ⟨v, hv, rv⟩ := (rk.get hq).1 e eg; rw [hv]; exact rv
    · next d' y z heq =>
      cases heq
      obtain ⟨kvs, ek, a⟩ := a.bind
      obtain ⟨w, w2, rfl, rw', rz⟩ := rds.two
      obtain ⟨p, m, rfl, hd, rk⟩ := R.asK rd ek
      cases rx
      obtain ⟨u, u2, rfl, ru, ru2⟩ := rv.two
      split at a
      · cases rw'
        cases ru
        exact d_getN I hd ru2 fun w' s' I' rw2 => ⟨_, H, I', rw2, a.val R rfl rz⟩
      obtain ⟨k, eky, a⟩ := a.map
      obtain ⟨q', hq, rfl⟩ := KyR.of rw' eky
      refine d_get2 (by omega) I (.inl ⟨m, q', hd, rfl, rfl⟩) ru ru2 fun w' s' I' rw2 => ⟨_, H, I', rw2, a.val R rfl ?_⟩
      cases eg : getKd kvs k with
      | none => rw [(rk.get hq).2 eg]; exact rz
      | some e => obtain ⟨v, hv, rv⟩ := (rk.get hq).1 e eg; rw [hv]; exact rv
    · exact a.no.elim
  · -- setdefault
    refine .inr ⟨_, PySem.F.plainAttrs_dict, PySem.F.slot_dict_setdefault, PySem.F.type_dict_setdefault, fun pins s σ H ρ h d ds x xs v us Q I R rd rds rx rv a => ?_⟩
    unfold mtS at a
    dsimp only at a
    split at a
    · next i y z heq =>
      cases heq
      split at a
      · next kvs ei =>
        obtain ⟨k, eky, a⟩ := a.bind
        obtain ⟨hl, a⟩ := a.ite
        obtain ⟨w, w2, rfl, rw', rz⟩ := rds.two
        obtain ⟨p, m, rfl, hp, _, rk, hd⟩ := R.dct rd ei
        have hd := hd rfl
        cases rx
        obtain ⟨u, u2, rfl, ru, ru2⟩ := rv.two
        obtain ⟨q', hq, rfl⟩ := KyR.of rw' eky
        refine d_setd I hd ru ru2 (by rw [← rk.length]; exact hl) (fun v hv w' s' I' r' => ?_) (fun hn w' s' I' r' => ?_)
        · cases eg : getKd kvs k with
          | none => rw [(rk.get hq).2 eg] at hv; cases hv
          | some e =>
            rw [eg] at a
            obtain ⟨v', hv', rv'⟩ := (rk.get hq).1 e eg
            rw [hv] at hv'; cases hv'
            exact ⟨v, H, I', r', a.val R rfl rv'⟩
        · cases eg : getKd kvs k with
          | some e => obtain ⟨v', hv', _⟩ := (rk.get hq).1 e eg; rw [hn] at hv'; cases hv'
          | none =>
            rw [eg] at a
            obtain ⟨z, h', ez, q⟩ := a
            cases ez
            have af := Aft.setK R hp hd (rk.put hq rz)
            exact ⟨w2, _, I', r', q _ _ _ af (af.d rz)⟩
      · exact a.no.elim
    · exact a.no.elim
  · -- join
    refine .inr ⟨_, PySem.F.plainAttrs_str, PySem.F.slot_str_join, PySem.F.type_str_join, fun pins s σ H ρ h d ds x xs v us Q I R rd rds rx rv a => ?_⟩
    unfold mtS at a
    dsimp only at a
    split at a
    · next l y heq =>
      cases heq
      obtain ⟨zs, el, a⟩ := a.bind
      obtain ⟨ls, es, a⟩ := a.bind
      obtain ⟨hz, a⟩ := a.ite
      obtain ⟨w, rfl, rw'⟩ := rds.one
      obtain ⟨z, rfl, ez⟩ := relSt rd
      obtain ⟨p, vs, rfl, hq, rs⟩ := R.asL rw' el
      obtain ⟨ys, rfl, ey⟩ := rs.strs es
      have e1 : ys.map (fun y => y.length) = ls.map List.length := by
        rw [← ey, List.map_map]
        exact List.map_congr_left fun y _ => str_len rfl
      have e2 : ys.length = ls.length := by rw [← ey, List.length_map]
      refine mt_join pins s σ H _ _ v us Q I rx rv ⟨z, p, ys, rfl, rfl, .inl (by rw [hK]; exact hq), by rw [e1, e2, str_len ez]; exact hz, a.val R rfl (.str ?_)⟩
      rw [TL.join_eq]
      refine (TL.tl_join z ys).trans ?_
      rw [← ez, ← ey]
    · exact a.no.elim
end
end Mi

set_option Elab.async false
set_option linter.all false
set_option maxRecDepth 100000
set_option maxHeartbeats 1000000
/-! Mi: a small language of plain data, and what must hold ahead of a text of it. -/
namespace Mi
open PySem PySem.Spec PyProof.Rows L2

inductive Op2 where
  | add | sub | mul | div | mod | pow | eq | ne | lt | le | gt | ge | iss | isnt | inn | notin | ix
  deriving DecidableEq
def Op2.sem : Op2 → S2
  | .add => addS | .sub => subS | .mul => mulS | .div => divS | .mod => modS | .pow => powS | .eq => eqS | .ne => neS | .lt => ltS | .le => leS | .gt => gtS | .ge => geS
  | .iss => isS | .isnt => isntS | .inn => inS | .notin => notInS | .ix => ixS
def Bi.sem : Bi → SN
  | .len => lenS | .abs => absS | .int => intS | .min2 => min2S | .max2 => max2S | .sum => sumS | .any => anyS | .all => allS | .list => listS | .tuple => tupleS | .sset => ssetS | .dict => dictS | .sortd => sortdS | .lzip => lzipS | .lrng => lrngS

/-- the methods of the kinds -/
def mtT : Mt → Ty → Bool
  | .append, .lst => true
  | .extend, .lst => true
  | .pop, .lst => true
  | .count, .lst => true
  | .index, .lst => true
  | .get, .dct => true
  | .setdefault, .dct => true
  | .join, .str => true
  | _, _ => false

mutual
inductive G where
  | n (i : Nat) | t (gs : Gs)
inductive Gs where
  | nil | cons (g : G) (gs : Gs)
end
mutual
inductive E where
  | k (d : D) | v (i : Nat)
  | tup (es : Es) | lst (es : Es) | dct (ps : Ps)
  | op (o : Op2) (a b : E) | chain (o p : Op2) (a b c : E)
  | neg (a : E) | not (a : E) | and (a b : E) | or (a b : E) | ite (c a b : E)
  | sl (a : E) (lo hi : Eo) | rev (a : E)
  | call (f : Nat) (es : Es)
  | bi (b : Bi) (es : Es) | isi (t : Ty) (a : E) | isx (c : Nat) (a : E)
  | mk (c : Nat) (es : Es) | fld (a : E) (f : Str)
  | mt (m : Mt) (o : E) (es : Es)
  | cp (g : G) (r : Ir) (c : Eo) (e : E) (own : List Nat)
  | cp2 (g : G) (r : Ir) (c : Eo) (g1 : G) (r1 : Ir) (c1 : Eo) (e : E) (own own1 : List Nat)
  | dc (g : G) (r : Ir) (c : Eo) (kx e : E) (own : List Nat)
inductive Es where
  | nil | cons (e : E) (es : Es)
inductive Ps where
  | nil | cons (k v : E) (ps : Ps)
inductive Eo where
  | no | so (e : E)
/-- what is gone through -/
inductive Ir where
  | of (e : E) | nm (i : Nat) | r1 (a : E) | r2 (a b : E) | en (e : E) | zp (a b : E) | kys (i : Nat) | vls (i : Nat) | its (i : Nat)
end
mutual
inductive S where
  | ex (e : E) | asg (g : G) (e : E) | sub (o i e : E) | par (i j : Nat) (a b : E) | aug (i : Nat) (o : Op2) (e : E)
  | ret (e : E) | retN | ite (c : E) (a b : Ss) | whl (c : E) (b : Ss) | loop (g : G) (r : Ir) (b : Ss)
  | brk | cnt | pas | rse (c : Nat) (es : Es) | tryAs (b : Ss) (c i j : Nat)
inductive Ss where
  | nil | cons (s : S) (ss : Ss)
end

/-- x[::-1] -/
def revS (h : Hh) : D → Option (D × Hh)
  | .tup ds => some (.tup ds.reverse, h)
  | .ref i => (asL h (.ref i)).map fun ds => (.ref h.length, h ++ [.lst ds.reverse])
  | _ => none
/-! ### what must hold -/
def okS (r : Option (D × Hh)) (Q : PQ) : Prop := match r with
  | some (z, h) => Q z h
  | none => False
def okB (r : Option Bool) (Q : Bool → Prop) : Prop := match r with
  | some b => Q b
  | none => False
/-- a call of the f-th def -/
abbrev Cal := Nat → List D → Hh → PQ → PX → Prop
structure En where
  nx : Sl → Hh → Prop
  rt : D → Hh → Prop
  bk : Sl → Hh → Prop
  ct : Sl → Hh → Prop
  ex : Nat → List D → Sl → Hh → Prop

mutual
/-- the places that a target stores -/
def gAs (h : Hh) : G → D → Option (List (Nat × D))
  | .n i, d => some [(i, d)]
  | .t gs, .tup ds => gAss h gs ds
  | .t gs, .ref a => match asL h (.ref a) with
    | some ds => gAss h gs ds
    | none => none
  | .t _, _ => none
def gAss (h : Hh) : Gs → List D → Option (List (Nat × D))
  | .nil, [] => some []
  | .cons g gs, d :: ds => match gAs h g d, gAss h gs ds with
    | some a, some b => some (a ++ b)
    | _, _ => none
  | _, _ => none
end
def setA {α : Type} (τ : List (Option α)) (as : List (Nat × α)) : List (Option α) := as.foldl (fun τ p => τ.set p.1 (some p.2)) τ
def wG (g : G) (d : D) (k : Sl → Hh → Prop) (τ : Sl) (h : Hh) : Prop := match gAs h g d with
  | some as => k (setA τ as) h
  | none => False
def wipeA (τ : Sl) : List Nat → Sl
  | [] => τ
  | v :: vs => (wipeA τ vs).set v none
/-- the items, one behind the other: g holds at each turn -/
def wItems (g : Hh → Prop) (body : D → (Sl → Hh → Prop) → Sl → Hh → Prop) (nx : Sl → Hh → Prop) : List D → Sl → Hh → Prop
  | [], τ, h => g h ∧ nx τ h
  | d :: ds, τ, h => g h ∧ body d (wItems g body nx ds) τ h
/-- .. with a list that grows at a -/
def wAcc (g : Hh → Prop) (a : Nat) (elt : D → PQ → (Hh → Prop) → Hh → Prop) (k : Hh → Prop) : List D → Hh → Prop
  | [], h => g h ∧ k h
  | d :: ds, h => g h ∧ elt d (fun y h4 => match h4[a]? with
      | some (.lst acc) => acc.length < sizeLine ∧ wAcc g a elt k ds (h4.set a (.lst (acc ++ [y])))
      | _ => False) (wAcc g a elt k ds) h
/-- .. a dict -/
def wAccD (g : Hh → Prop) (a : Nat) (elt : D → (D → D → Hh → Prop) → (Hh → Prop) → Hh → Prop) (k : Hh → Prop) : List D → Hh → Prop
  | [], h => g h ∧ k h
  | d :: ds, h => g h ∧ elt d (fun x y h4 => match h4[a]?, x.ky with
      | some (.dct false acc), some q => acc.length < sizeLine ∧ wAccD g a elt k ds (h4.set a (.dct false (putKd acc q y)))
      | _, _ => False) (wAccD g a elt k ds) h
/-- a while -/
def wWhl (c : (Bool → Hh → Prop) → Sl → Hh → Prop) (b : (Sl → Hh → Prop) → Sl → Hh → Prop) (nx : Sl → Hh → Prop) (τ : Sl) (h : Hh) : Prop :=
  ∃ W : Nat → Sl → Hh → Prop, (∃ m, W m τ h) ∧ ∀ m τ h, W m τ h → c (fun t h1 => if t = true then b (fun τ' h' => ∃ m', m' < m ∧ W m' τ' h') τ h1 else nx τ h1) τ h
def enumD (ds : List D) : List D := (List.range ds.length).zipWith (fun (i : Nat) d => .tup [.int i, d]) ds
/-- a source's guard and its items -/
abbrev KI := (Hh → Prop) → List D → Hh → Prop
def srcD (x : D) (k : KI) (h : Hh) : Prop := match x with
  | .tup ds => k (fun _ => True) ds h
  | .str l => k (fun _ => True) (l.map fun c => .str [c]) h
  | .ref a => match asL h (.ref a) with
    | some ds => k (fun h => asL h (.ref a) = some ds) ds h
    | none => False
  | _ => False
/-- a locked dict in a slot -/
def dctAt (τ : Sl) (h : Hh) (i : Nat) : Option (Nat × List (Ky × D)) := match τ[i]? with
  | some (some (.ref a)) => match h[a]? with
    | some (.dct true kvs) => some (a, kvs)
    | _ => none
  | _ => none
def dctIn (τ : Sl) (h : Hh) (i : Nat) (f : List (Ky × D) → List D) (k : KI) : Prop := match dctAt τ h i with
  | some (a, kvs) => k (fun h => h[a]? = some (.dct true kvs)) (f kvs) h
  | none => False
/-- a dict that is not locked yet, in a slot -/
def dctF (τ : Sl) (h : Hh) (i : Nat) : Option (Nat × List (Ky × D)) := match τ[i]? with
  | some (some (.ref a)) => match h[a]? with
    | some (.dct false kvs) => some (a, kvs)
    | _ => none
  | _ => none
/-- the dict that is gone through: it is locked meanwhile -/
def Ir.lk (τ : Sl) (h : Hh) : Ir → Option (Nat × List (Ky × D))
  | .nm i => dctF τ h i
  | .kys i => dctF τ h i
  | .vls i => dctF τ h i
  | .its i => dctF τ h i
  | _ => none
/-- what is wanted behind it, of the dict unlocked -/
def unlk (a : Nat) (kvs : List (Ky × D)) (k : Hh → Prop) (h : Hh) : Prop := h[a]? = some (.dct true kvs) ∧ k (h.set a (.dct false kvs))
def En.unlk (D : En) (a : Nat) (kvs : List (Ky × Mi.D)) : En :=
  { nx := fun τ h => Mi.unlk a kvs (D.nx τ) h, rt := fun v h => Mi.unlk a kvs (D.rt v) h, bk := fun τ h => Mi.unlk a kvs (D.bk τ) h, ct := fun τ h => Mi.unlk a kvs (D.ct τ) h, ex := D.ex }
/-- our classes of exceptions: e is c or below it; what a new one holds; its fields' places -/
structure Zi where
  nx : Nat
  le : Nat → Nat → Bool
  mkf : Nat → List D → Option (List D)
  fld : Nat → Str → Option Nat
def kysOf : List (D × D) → Option (List (Ky × D))
  | [] => some []
  | (a, b) :: r => match a.ky, kysOf r with
    | some k, some l => some ((k, b) :: l)
    | _, _ => none
mutual
def wE (Z : Zi) (C : Cal) : E → PQ → PX → Sl → Hh → Prop
  | .k d, Q, _, _, h => Q d h
  | .v i, Q, _, τ, h => match τ[i]? with
    | some (some d) => Q d h
    | _ => False
  | .tup es, Q, Qx, τ, h => wEs Z C es (fun ds h' => ds.length ≤ sizeLine ∧ Q (.tup ds) h') Qx τ h
  | .lst es, Q, Qx, τ, h => wEs Z C es (fun ds h' => ds.length ≤ sizeLine ∧ Q (.ref h'.length) (h' ++ [.lst ds])) Qx τ h
  | .dct ps, Q, Qx, τ, h => wPs Z C ps (fun ds h' => match kysOf ds with
      | some kvs => kvs.length ≤ 15 ∧ h'[h.length]? = some (.dct false []) ∧ Q (.ref h.length) (h'.set h.length (.dct false (mergeKd [] kvs)))
      | none => False) Qx τ (h ++ [.dct false []])
  | .op o a b, Q, Qx, τ, h => wE Z C a (fun x h1 => wE Z C b (fun y h2 => okS (o.sem h2 x y) Q) Qx τ h1) Qx τ h
  | .chain o p a b c, Q, Qx, τ, h => wE Z C a (fun x h1 => wE Z C b (fun y h2 => okS (o.sem h2 x y) fun z h3 => match z with
      | .bl t => if t = true then wE Z C c (fun w h4 => okS (p.sem h4 y w) Q) Qx τ h3 else Q (.bl false) h3
      | _ => False) Qx τ h1) Qx τ h
  | .neg a, Q, Qx, τ, h => wE Z C a (fun x h1 => match x with
      | .int i => Q (.int (-i)) h1
      | _ => False) Qx τ h
  | .not a, Q, Qx, τ, h => wE Z C a (fun x h1 => okB (truD h1 x) fun t => Q (.bl (!t)) h1) Qx τ h
  | .and a b, Q, Qx, τ, h => wE Z C a (fun x h1 => okB (truD h1 x) fun t => if t = true then wE Z C b Q Qx τ h1 else Q x h1) Qx τ h
  | .or a b, Q, Qx, τ, h => wE Z C a (fun x h1 => okB (truD h1 x) fun t => if t = true then Q x h1 else wE Z C b Q Qx τ h1) Qx τ h
  | .ite c a b, Q, Qx, τ, h => wE Z C c (fun x h1 => okB (truD h1 x) fun t => if t = true then wE Z C a Q Qx τ h1 else wE Z C b Q Qx τ h1) Qx τ h
  | .sl a lo hi, Q, Qx, τ, h => wE Z C a (fun x h1 => wO Z C lo (fun l h2 => wO Z C hi (fun u h3 => okS (slS h3 x l u) Q) Qx τ h2) Qx τ h1) Qx τ h
  | .rev a, Q, Qx, τ, h => wE Z C a (fun x h1 => okS (revS h1 x) Q) Qx τ h
  | .call f es, Q, Qx, τ, h => wEs Z C es (fun ds h' => C f ds h' Q Qx) Qx τ h
  | .bi b es, Q, Qx, τ, h => wEs Z C es (fun ds h' => okS (b.sem h' ds) Q) Qx τ h
  | .isi t a, Q, Qx, τ, h => wE Z C a (fun x h1 => okS (isiS t h1 x) Q) Qx τ h
  | .isx c a, Q, Qx, τ, h => wE Z C a (fun x h1 => match x with
      | .exn e _ => e < Z.nx ∧ Q (.bl (Z.le e c)) h1
      | .non => Q (.bl false) h1
      | _ => False) Qx τ h
  | .mk c es, Q, Qx, τ, h => wEs Z C es (fun ds h1 => match Z.mkf c ds with
      | some fs => Q (.exn c fs) h1
      | none => False) Qx τ h
  | .fld a f, Q, Qx, τ, h => wE Z C a (fun x h1 => match x with
      | .exn e fs => e < Z.nx ∧ (match Z.fld e f with
        | some i => (match fs[i]? with
          | some y => Q y h1
          | none => False)
        | none => False)
      | _ => False) Qx τ h
  | .mt m o es, Q, Qx, τ, h => wE Z C o (fun x h1 => match recT h1 x with
      | some ty => mtT m ty = true ∧ wEs Z C es (fun ds h2 => okS (mtS m ty h2 (x :: ds)) Q) Qx τ h1
      | none => False) Qx τ h
  | .cp g r c e own, Q, Qx, τ, h => match r.lk τ h with
    | none => wI Z C r (fun gd ds h1 => wAcc gd h1.length (fun d q sk h2 => wG g d (fun τ1 h3 => wT Z C c (fun t h4 => if t = true then wE Z C e q (fun _ _ _ => False) τ1 h4 else sk h4) (fun _ _ _ => False) τ1 h3) (wipeA τ own) h2)
        (Q (.ref h1.length)) ds (h1 ++ [.lst []])) Qx τ h
    | some (a, kvs) => wI Z C r (fun gd ds h1 => wAcc gd h1.length (fun d q sk h2 => wG g d (fun τ1 h3 => wT Z C c (fun t h4 => if t = true then wE Z C e q (fun _ _ _ => False) τ1 h4 else sk h4) (fun _ _ _ => False) τ1 h3) (wipeA τ own) h2)
        (unlk a kvs (Q (.ref h1.length))) ds (h1 ++ [.lst []])) Qx τ (h.set a (.dct true kvs))
  | .cp2 g r c g1 r1 c1 e own own1, Q, Qx, τ, h => wI Z C r (fun gd ds h1 => wAcc gd h1.length (fun d _ sk h2 => wG g d (fun τ1 h3 => wT Z C c (fun t h4 => if t = true then
        wI Z C r1 (fun gd1 ds1 h5 => wAcc gd1 h1.length (fun d1 q1 sk1 h6 => wG g1 d1 (fun τ2 h7 => wT Z C c1 (fun t1 h8 => if t1 = true then wE Z C e q1 (fun _ _ _ => False) τ2 h8 else sk1 h8) (fun _ _ _ => False) τ2 h7) (wipeA τ1 own1) h6) sk ds1 h5) (fun _ _ _ => False) τ1 h4
        else sk h4) (fun _ _ _ => False) τ1 h3) (wipeA τ own) h2) (Q (.ref h1.length)) ds (h1 ++ [.lst []])) Qx τ h
  | .dc g r c kx e own, Q, Qx, τ, h => match r.lk τ h with
    | none => wI Z C r (fun gd ds h1 => wAccD gd h1.length (fun d q sk h2 => wG g d (fun τ1 h3 => wT Z C c (fun t h4 => if t = true then wE Z C kx (fun x h5 => wE Z C e (q x) (fun _ _ _ => False) τ1 h5) (fun _ _ _ => False) τ1 h4 else sk h4) (fun _ _ _ => False) τ1 h3) (wipeA τ own) h2)
        (Q (.ref h1.length)) ds (h1 ++ [.dct false []])) Qx τ h
    | some (a, kvs) => wI Z C r (fun gd ds h1 => wAccD gd h1.length (fun d q sk h2 => wG g d (fun τ1 h3 => wT Z C c (fun t h4 => if t = true then wE Z C kx (fun x h5 => wE Z C e (q x) (fun _ _ _ => False) τ1 h5) (fun _ _ _ => False) τ1 h4 else sk h4) (fun _ _ _ => False) τ1 h3) (wipeA τ own) h2)
        (unlk a kvs (Q (.ref h1.length))) ds (h1 ++ [.dct false []])) Qx τ (h.set a (.dct true kvs))
def wEs (Z : Zi) (C : Cal) : Es → (List D → Hh → Prop) → PX → Sl → Hh → Prop
  | .nil, Q, _, _, h => Q [] h
  | .cons e es, Q, Qx, τ, h => wE Z C e (fun d h1 => wEs Z C es (fun ds h2 => Q (d :: ds) h2) Qx τ h1) Qx τ h
def wPs (Z : Zi) (C : Cal) : Ps → (List (D × D) → Hh → Prop) → PX → Sl → Hh → Prop
  | .nil, Q, _, _, h => Q [] h
  | .cons k v ps, Q, Qx, τ, h => wE Z C k (fun x h1 => wE Z C v (fun y h2 => wPs Z C ps (fun ds h3 => Q ((x, y) :: ds) h3) Qx τ h2) Qx τ h1) Qx τ h
def wO (Z : Zi) (C : Cal) : Eo → (Option Int → Hh → Prop) → PX → Sl → Hh → Prop
  | .no, Q, _, _, h => Q none h
  | .so e, Q, Qx, τ, h => wE Z C e (fun x h1 => match x with
      | .int i => Q (some i) h1
      | _ => False) Qx τ h
/-- a clause's test -/
def wT (Z : Zi) (C : Cal) : Eo → (Bool → Hh → Prop) → PX → Sl → Hh → Prop
  | .no, Q, _, _, h => Q true h
  | .so e, Q, Qx, τ, h => wE Z C e (fun x h1 => okB (truD h1 x) fun t => Q t h1) Qx τ h
def wI (Z : Zi) (C : Cal) : Ir → KI → PX → Sl → Hh → Prop
  | .of e, k, Qx, τ, h => wE Z C e (fun x h1 => srcD x k h1) Qx τ h
  | .nm i, k, _, τ, h => match dctAt τ h i with
    | some (a, kvs) => k (fun h => h[a]? = some (.dct true kvs)) (kvs.map fun p => p.1.d) h
    | none => match τ[i]? with
      | some (some x) => srcD x k h
      | _ => False
  | .r1 a, k, Qx, τ, h => wE Z C a (fun x h1 => match x with
      | .int j => (-(2 ^ 62) ≤ j ∧ j < 2 ^ 62) ∧ k (fun _ => True) (rangeD 0 j.toNat) h1
      | _ => False) Qx τ h
  | .r2 a b, k, Qx, τ, h => wE Z C a (fun x h1 => wE Z C b (fun y h2 => match x, y with
      | .int i, .int j => (-(2 ^ 62) ≤ i ∧ i < 2 ^ 62 ∧ -(2 ^ 62) ≤ j ∧ j < 2 ^ 62) ∧ k (fun _ => True) (rangeD i (j - i).toNat) h2
      | _, _ => False) Qx τ h1) Qx τ h
  | .en e, k, Qx, τ, h => wE Z C e (fun x h1 => match asL h1 x with
      | some ds => k (fun h => asL h x = some ds) (enumD ds) h1
      | none => False) Qx τ h
  | .zp a b, k, Qx, τ, h => wE Z C a (fun x h1 => wE Z C b (fun y h2 => match asL h2 x, asL h2 y with
      | some xs, some ys => k (fun h => asL h x = some xs ∧ asL h y = some ys) (zipD xs ys) h2
      | _, _ => False) Qx τ h1) Qx τ h
  | .kys i, k, _, τ, h => dctIn τ h i (fun kvs => kvs.map fun p => p.1.d) k
  | .vls i, k, _, τ, h => dctIn τ h i (fun kvs => kvs.map fun p => p.2) k
  | .its i, k, _, τ, h => dctIn τ h i (fun kvs => kvs.map fun p => .tup [p.1.d, p.2]) k
end
def En.px (D : En) (τ : Sl) : PX := fun c fs h => D.ex c fs τ h
mutual
def wS (Z : Zi) (C : Cal) : S → En → Sl → Hh → Prop
  | .ex e, D, τ, h => wE Z C e (fun _ h1 => D.nx τ h1) (D.px τ) τ h
  | .asg g e, D, τ, h => wE Z C e (fun d h1 => wG g d D.nx τ h1) (D.px τ) τ h
  | .sub o i e, D, τ, h => wE Z C e (fun d h1 => wE Z C o (fun x h2 => wE Z C i (fun y h3 => match x with
      | .ref a => (match h3[a]? with
        | some (.lst xs) => (match y with
          | .int k => (match ixN xs.length k with
            | some j => D.nx τ (h3.set a (.lst (xs.set j d)))
            | none => False)
          | _ => False)
        | some (.dct false kvs) => (match y.ky with
          | some q => kvs.length < sizeLine ∧ D.nx τ (h3.set a (.dct false (putKd kvs q d)))
          | none => False)
        | _ => False)
      | _ => False) (D.px τ) τ h2) (D.px τ) τ h1) (D.px τ) τ h
  | .par i j a b, D, τ, h => wE Z C a (fun x h1 => wE Z C b (fun y h2 => D.nx ((τ.set i (some x)).set j (some y)) h2) (D.px τ) τ h1) (D.px τ) τ h
  | .aug i o e, D, τ, h => match τ[i]? with
    | some (some x) => wE Z C e (fun y h1 => match o, x, y with
      | .add, .int a, .int b => D.nx (τ.set i (some (.int (a + b)))) h1
      | .sub, .int a, .int b => D.nx (τ.set i (some (.int (a - b)))) h1
      | _, _, _ => False) (D.px τ) τ h
    | _ => False
  | .ret e, D, τ, h => wE Z C e D.rt (D.px τ) τ h
  | .retN, D, _, h => D.rt .non h
  | .ite c a b, D, τ, h => wE Z C c (fun x h1 => okB (truD h1 x) fun t => if t = true then wSs Z C a D τ h1 else wSs Z C b D τ h1) (D.px τ) τ h
  | .whl c b, D, τ, h => wWhl (fun k τ1 h1 => wE Z C c (fun x h2 => okB (truD h2 x) fun t => k t h2) (D.px τ1) τ1 h1) (fun k τ1 h1 => wSs Z C b { D with nx := k, ct := k, bk := D.nx } τ1 h1) D.nx τ h
  | .loop g r b, D, τ, h => match r.lk τ h with
    | none => wI Z C r (fun gd ds h1 => wItems gd (fun d k τ1 h2 => wG g d (fun τ2 h3 => wSs Z C b { D with nx := k, ct := k, bk := D.nx } τ2 h3) τ1 h2) D.nx ds τ h1) (D.px τ) τ h
    | some (a, kvs) => wI Z C r (fun gd ds h1 => wItems gd (fun d k τ1 h2 => wG g d (fun τ2 h3 => wSs Z C b { D.unlk a kvs with nx := k, ct := k, bk := (D.unlk a kvs).nx } τ2 h3) τ1 h2) (D.unlk a kvs).nx ds τ h1) (D.px τ) τ (h.set a (.dct true kvs))
  | .brk, D, τ, h => D.bk τ h
  | .cnt, D, τ, h => D.ct τ h
  | .pas, D, τ, h => D.nx τ h
  | .rse c es, D, τ, h => wEs Z C es (fun ds h1 => match Z.mkf c ds with
      | some fs => D.ex c fs τ h1
      | none => False) (D.px τ) τ h
  | .tryAs b c i j, D, τ, h => wSs Z C b { D with ex := fun e fs τ1 h1 => e < Z.nx ∧ if Z.le e c = true then D.nx (((τ1.set i (some (.exn e fs))).set j (some (.exn e fs))).set i none) h1 else D.ex e fs τ1 h1 } τ h
def wSs (Z : Zi) (C : Cal) : Ss → En → Sl → Hh → Prop
  | .nil, D, τ, h => D.nx τ h
  | .cons s ss, D, τ, h => wS Z C s { D with nx := wSs Z C ss D } τ h
end
end Mi

set_option Elab.async false
set_option linter.all false
set_option maxRecDepth 100000
set_option maxHeartbeats 1000000
/-! Mi: a caught exception is kept in a name. -/
namespace L2
open PySem PySem.Spec PyProof.Rows
section
variable {X : Cx} {pins : List (Addr × Obj)} {σ : L2.St} {H : Hp} {s : Shared} {a : Addr} {o : HO}
/-- an object that has come meanwhile is tracked -/
theorem Inv.track (I : Inv X pins σ H s) (na : H a = none) (n0 : X.s_0.heap.get? a = none) (nL : a ≠ X.env.locals) (nc : ∀ x c, X.env.cells.lookup x = some c → c ≠ a) (np : ∀ p ∈ X.pn ++ pins, p.1 ≠ a)
    (new : ObjOk X.prog X.w (upd H a o) s.heap a o) : Inv X pins σ (upd H a o) s where
  ok := I.ok
  os := I.os
  bare := I.bare
  base :=
    { keep := I.base.keep
      slot := I.base.slot
      free := fun b u e n hx => by
        rw [upd_ne (fun z => by rw [z, n0] at e; cases e)]
        exact I.base.free b u e n hx
      there := I.base.there
      tups := fun b xs e => by
        have q := I.base.tups b xs e
        rw [upd_ne (ne_of_none q na)]
        exact q
      frzs := fun b u v e => by
        have q := I.base.frzs b u v e
        rw [upd_ne (ne_of_none q na)]
        exact q
      tbls := fun b ps e => by
        obtain ⟨m, q⟩ := I.base.tbls b ps e
        exact ⟨m, by rw [upd_ne (ne_of_none q na)]; exact q⟩ }
  loc := I.loc
  cell := I.cell
  free := by rw [upd_ne nL.symm]; exact I.free
  freeC := fun x c e => by rw [upd_ne (nc x c e)]; exact I.freeC x c e
  pin := fun p hp => by
    obtain ⟨e, n, r⟩ := I.pin p hp
    exact ⟨e, by rw [upd_ne (np p hp)]; exact n, r⟩
  hok := I.hok.laidN (fun _ _ q => q) na new
  len := I.len
theorem Inv.suite0 (I : Inv X pins σ H s) (a : Addr) : Inv (X.suite a (X.pn ++ pins)) [] σ H s :=
  ⟨I.ok.suite _ _, I.os, I.bare, I.base, I.loc, I.cell, I.free, I.freeC, fun p hp => I.pin p (by rw [List.append_nil] at hp; exact hp), I.hok, I.len⟩
theorem Inv.unsuite0 {pn' : List (Addr × Obj)} (I : Inv (X.suite a (X.pn ++ pins)) pn' σ H s) (ok : X.Ok) : Inv X pins σ H s :=
  ⟨ok, I.os, I.bare, I.base, I.loc, I.cell, I.free, I.freeC, fun p hp => I.pin p (List.mem_append_left _ hp), I.hok, I.len⟩
end
/-- what the clause 'except x as n: m = n' wishes: i is n's slot, j is m's -/
def wTr (K : PySem.W.Frag) (c : Value) (i j : Nat) (Wout : WX) (D : Ends) : WX := fun cls d σ H => ∃ b C, cls = .ref C ∧ PySem.W.exmOne K cls c = some b ∧
  (b = true → ∀ a, H a = none → D.nx (((σ.set i (some (.ref a))).set j (some (.ref a))).set i none) (upd H a (Mi.ExH C d a))) ∧ (b = false → Wout cls d σ H)
section
variable {X : Cx} {body : List Stmt} {x n m : Str} {c : Value} {i j : Nat} {Wout : WX} {tb : WX → TS} {np pos pos' py pv' pa : Pos}
theorem ps_try_keep (hs : X.stack = X.env :: X.outer) (hf : X.env.frame = some X.env.locals) (hN : X.N.Nodup) (hi : X.N[i]? = some n) (hln : X.env.kindOf n = some .local) (hj : X.N[j]? = some m) (hlm : Loc X.env.scope m) (hfm : X.fn m = true ∨ X.env.scope.names.lookup m = some .local)
    (hd : (n == ("__debug__" : Str)) = false) (hcd : (n == ("__classdict__" : Str)) = false) (hc : Names X x c) (tk : Takes X Wout) (hex : X.ex = [])
    (hb : ∀ (W : WX) (pn : List (Addr × Obj)) (xe : Value → Shared → Prop), Takes (X.tr pn xe) W → PassesOwn (model X.prog X.w) X.A X.env xe → PSs (X.tr pn xe) body (tb W)) :
    PS X (.Try body [.ExceptHandler (some (.Name x np)) (some n) [.Assign [.Name m py] (.Name n pv') pa] pos'] [] [] pos) (fun D σ H => tb (wTr X.K c i j Wout D) D σ H) := by
  refine ⟨fun pins s σ H D I h => ?_⟩
  have ok := I.ok
  have hfr : X.A.frames = some (X.env :: X.outer) := by rw [ok.frames, hs]
  refine wpAny_Try_except ?_
  refine wpAny_mono ((hb (wTr X.K c i j Wout D) (X.pn ++ pins) (fun e s₁ => wpAny (model X.prog X.w) X.A (noteFrame e X.env) (fun _ s₂ => wpAny (model X.prog X.w) X.A (setFlight e none) (fun _ s₃ =>
    wpAny (model X.prog X.w) X.A (handleBy e X.env [.ExceptHandler (some (.Name x np)) (some n) [.Assign [.Name m py] (.Name n pv') pa] pos']) (SP X pins D) X.xe s₃) X.xe s₂) X.xe s₁) (fun u s' xx => ?_) PassesOwn.looking).run [] s σ H D (I.toTry _) h) (fun f s1 hsp => ?_) (fun e s1 he => he)
  · obtain ⟨a, B, sI, pins', σ', H', cls, d, rfl, J', nb, up, sky, na, os, ag, b, C, hcls, hb1, hyes, hno⟩ := xx
    have J : Inv X pins σ' H' sI := J'.ofTry ok
    have sky' : Sky B (X.env :: X.outer) a (Zc cls d) X.env.locals s'.heap := by rw [← hs]; exact sky
    show wpAny (model X.prog X.w) X.A (noteFrame (.ref a) X.env) _ _ _
    refine Sky.land Zc.steady hfr hf sky' fun h3 fl3 up3 => ?_
    have J3 : Inv X pins σ' H' { s' with heap := h3 } := J.landed nb fl3.1 (up.trans up3) os ag
    obtain ⟨oe3, vs3, he3, hz3, hd3⟩ := fl3.there
    have nfr : a ∉ frs (X.env :: X.outer) := fun hm => by
      obtain ⟨_, o', e', hnf⟩ := fl3.2.2.1.mem hm
      rw [he3] at e'; cases e'
      exact hnf _ hd3
    have nL : a ≠ X.env.locals := fun z => nfr (List.mem_filterMap.mpr ⟨X.env, List.mem_cons_self, by rw [hf, z]⟩)
    have nF : a ∉ X.fs := fun hm => by
      obtain ⟨e, he, q⟩ := List.mem_filterMap.mp hm
      exact nfr (List.mem_filterMap.mpr ⟨e, List.mem_cons_of_mem _ he, q⟩)
    have nI : sI.heap.get? a = none := by
      cases e : sI.heap.get? a with
      | none => rfl
      | some o =>
        have q := nb a o e (by rw [hs]; exact nfr)
        rw [fl3.2.1] at q; cases q
    have n0 : X.s_0.heap.get? a = none := by
      cases e : X.s_0.heap.get? a with
      | none => rfl
      | some o =>
        obtain ⟨o', q⟩ := J.base.there a o e (by rw [hex]; exact fun z => nomatch z)
        rw [nI] at q; cases q
    have S3 : Inv (X.suite a (X.pn ++ pins)) [] σ' H' { s' with heap := h3 } := J3.suite0 a
    refine wpAny_handleBy_cons (codeAny_handlers_test ?_) (by intro q; cases q)
    have LT : PySem.W.Looks (model X.prog X.w) h3 (typeOf (.ref a)) cls := fun A Q E s k q => wpAny_typeOf_ref (k _ _ he3) (by rw [hz3.1]; exact q)
    have LM := PySem.W.exm_one (M := model X.prog X.w) (J3.kIn) LT hb1
    have test : ∀ {Q : Value → Shared → Prop} {E : Value → Shared → Prop}, Q c { s' with heap := h3 } → wpAny (model X.prog X.w) (X.A.mark (some (.ref a))) (eval (.Name x np) X.env) Q E { s' with heap := h3 } := fun {Q E} q => by
      obtain ⟨hg, hdbg, hm | ⟨hm, hv, hnn⟩⟩ := hc
      · exact ld_glob (X := X.suite a (X.pn ++ pins)) S3 hg hm q hdbg
      · exact ld_blt (X := X.suite a (X.pn ++ pins)) S3 hg hm hv q hnn hdbg
    refine test (LM.here ?_)
    cases b with
    | true =>
      refine codeAny_handlers_suite_as ?_
      refine HandSPX.lands_againZ fl3 fun h4 fl4 up4 => ?_
      have J4 : Inv X pins σ' H' { s' with heap := h4 } := J.landed nb fl4.1 ((up.trans up3).trans up4) os ag
      obtain ⟨oe4, vs4, he4, hz4, hd4⟩ := fl4.there
      subst hcls
      have T4 : Inv X pins σ' (upd H' a (Mi.ExH C d a)) { s' with heap := h4 } := by
        refine J4.track na n0 nL (fun x c e z => ?_) (fun p hp z => ?_) ?_
        · obtain ⟨v, o, ho, _⟩ := J.cell x c e
          rw [z, nI] at ho; cases ho
        · have q := (J.pin p hp).1
          rw [z, nI] at q; cases q
        · exact ⟨⟨oe4, vs4, he4, hz4, hd4⟩, ⟨oe4, he4⟩, fun h1 h2 ⟨oe, vs, e1, e2, e3⟩ k => ⟨oe, vs, k _ e1, e2, e3⟩⟩
      refine store_ok (X := X.suite a (X.pn ++ pins)) (v := .ref a) (T4.suite0 a) hN hi (.inl hln) rfl (fun s5 S5 => ?_) (.inr hln)
      have hlen : i < σ'.length := by rw [J.len]; exact (List.getElem?_eq_some_iff.mp hi).1
      have P : PSs (X.suite a (X.pn ++ pins)) [.Assign [.Name m py] (.Name n pv') pa] (tAsg (tVar i) (gName j)) :=
        pss_one (ps_set (X := X.suite a (X.pn ++ pins)) hN hj hlm (pe_var (X := X.suite a (X.pn ++ pins)) hi (.inl hln) hd hcd) rfl hfm)
      refine wpAny_mono (P.run [] s5 _ _ { nx := fun σ6 H6 => σ6 = (σ'.set i (some (.ref a))).set j (some (.ref a)) ∧ H6 = upd H' a (Mi.ExH C d a), rt := fun _ _ => False } S5
        ⟨.ref a, List.getElem?_set_self hlen, rfl, rfl⟩) (fun f s6 hsp => ?_) (fun _ _ z => False.elim z)
      cases f with
      | next =>
        obtain ⟨σ6, H6, S6, rfl, rfl⟩ := hsp
        exact gone_ok (S6.unsuite0 ok) hN hi hln fun s7 J7 => ⟨_, _, J7, hyes rfl a na⟩
      | brk => obtain ⟨_, _, _, q⟩ := hsp; exact q.elim
      | cont => obtain ⟨_, _, _, q⟩ := hsp; exact q.elim
      | ret u => obtain ⟨_, _, _, _, _, q⟩ := hsp; exact q.elim
    | false =>
      show wpAny _ X.A (handleBy (.ref a) X.env []) _ _ _
      refine wpAny_handleBy_nil ?_
      obtain ⟨k1, k2, k3, oe, vs, T, oT, ts', he, hz, hd, h1, hr⟩ := id fl3
      unfold PySem.passOn
      refine wpAny_bind (wpAny_field he hd h1 ?_)
      rw [if_neg (show ¬ ((Value.ref T == Value.none) = true) from by simp)]
      have fin : wpAny (model X.prog X.w) X.A (setFlight (.ref a) X.env.frame) (fun _ s4 => wpAny (model X.prog X.w) X.A (throw (.ref a) : Sem Flow) (SP X pins D) X.xe s4) X.xe { s' with heap := h3 } := by
        rw [hf]
        refine HandSPX.setFlight_upZ fl3 fun h4 hh4 up4 => wpAny_throw (tk _ _ ?_)
        exact ⟨a, B, sI, pins, σ', H', cls, d, rfl, J, nb, (up.trans up3).trans up4, .inr (.inr (by rw [hs]; exact hh4)), na, os, ag, hno rfl⟩
      first
        | exact wpAny_bind (wpAny_pure (wpAny_bind fin))
        | exact wpAny_bind fin
  · cases f with
    | next =>
      obtain ⟨σ', H', J', q⟩ := hsp
      exact wpAny_execs_nil ⟨σ', H', J'.ofTry ok, q⟩
    | brk =>
      obtain ⟨σ', H', J', q⟩ := hsp
      exact ⟨σ', H', J'.ofTry ok, q⟩
    | cont =>
      obtain ⟨σ', H', J', q⟩ := hsp
      exact ⟨σ', H', J'.ofTry ok, q⟩
    | ret u =>
      obtain ⟨v, σ', H', J', r, q⟩ := hsp
      exact ⟨v, σ', H', J'.ofTry ok, r, q⟩
end
end L2

set_option Elab.async false
set_option linter.all false
set_option maxRecDepth 100000
set_option maxHeartbeats 1000000
/-! Mi: what holds ahead of an expression, lifted to the layer's readings. -/
namespace Mi
open PySem PySem.Spec PyProof.Rows L2

abbrev LQ (T : Tab) (ρ : List Addr) (H : Hp) (Qa : PQ) (Q : VK) : Prop := ∀ ρ' H' h' d v, Aft T ρ H ρ' h' H' → RelD T ρ' H' d v → Qa d h' → Q v H'
abbrev LX (T : Tab) (ρ : List Addr) (H : Hp) (Qx : PX) (W : WX) (σ : L2.St) : Prop := ∀ ρ' H' h' c fs cls dx, Aft T ρ H ρ' h' H' → RelX T ρ' H' c fs cls dx → Qx c fs h' → W cls dx σ H'
/-- what holds ahead of an expression -/
abbrev EW := PQ → PX → Sl → Hh → Prop
abbrev BW := (Bool → Hh → Prop) → PX → Sl → Hh → Prop
abbrev AW := (List D → Hh → Prop) → PX → Sl → Hh → Prop
abbrev OW := (Option Int → Hh → Prop) → PX → Sl → Hh → Prop
def liftE (T : Tab) (W : WX) (w : EW) : TE := fun σ H Q => ∃ ρ τ h Qa Qx, Rp T ρ h H ∧ RelS T ρ H τ σ ∧ w Qa Qx τ h ∧ LQ T ρ H Qa Q ∧ LX T ρ H Qx W σ
def liftB (T : Tab) (W : WX) (w : BW) : TT := fun σ H Q => ∃ ρ τ h Qa Qx, Rp T ρ h H ∧ RelS T ρ H τ σ ∧ w Qa Qx τ h ∧ (∀ ρ' H' h' b, Aft T ρ H ρ' h' H' → Qa b h' → Q b H') ∧ LX T ρ H Qx W σ
def liftA (T : Tab) (W : WX) (w : AW) : TA := fun σ H Q => ∃ ρ τ h Qa Qx, Rp T ρ h H ∧ RelS T ρ H τ σ ∧ w Qa Qx τ h ∧ (∀ ρ' H' h' ds vs, Aft T ρ H ρ' h' H' → RelDs T ρ' H' ds vs → Qa ds h' → Q vs H') ∧ LX T ρ H Qx W σ
def liftO (T : Tab) (W : WX) (w : OW) : TO := fun σ H Q => ∃ ρ τ h Qa Qx, Rp T ρ h H ∧ RelS T ρ H τ σ ∧ w Qa Qx τ h ∧ (∀ ρ' H' h' o, Aft T ρ H ρ' h' H' → Qa o h' → Q o H') ∧ LX T ρ H Qx W σ
/-- its truth -/
def tst (w : EW) : BW := fun Q Qx τ h => w (fun x h1 => okB (truD h1 x) fun t => Q t h1) Qx τ h

section
variable {X : Cx} {T : Tab} {W : WX} {ρ ρ' : List Addr} {H H' : Hp} {h h' : Hh} {σ : L2.St} {τ : Sl} {Qx : PX}
theorem LX.aft (x : LX T ρ H Qx W σ) (a : Aft T ρ H ρ' h' H') : LX T ρ' H' Qx W σ := fun _ _ _ _ _ _ _ b r q => x _ _ _ _ _ _ _ (a.trans b) r q
theorem lift1 {w : EW} {Ra : PQ} {K : VK} (R : Rp T ρ h H) (S : RelS T ρ H τ σ) (hx : LX T ρ H Qx W σ) (hw : w Ra Qx τ h) (k : ∀ ρ' H' h' d v, Aft T ρ H ρ' h' H' → RelD T ρ' H' d v → Ra d h' → K v H') : liftE T W w σ H K :=
  ⟨ρ, τ, h, Ra, Qx, R, S, hw, k, hx⟩
theorem lift2 {wa wb : EW} {Ra : D → D → Hh → Prop} {K : V → V → Hp → Prop} (R : Rp T ρ h H) (S : RelS T ρ H τ σ) (hx : LX T ρ H Qx W σ) (hw : wa (fun x h1 => wb (fun y h2 => Ra x y h2) Qx τ h1) Qx τ h)
    (k : ∀ ρ' H' h' d e v u, Aft T ρ H ρ' h' H' → RelD T ρ' H' d v → RelD T ρ' H' e u → Ra d e h' → K v u H') : liftE T W wa σ H fun x H1 => liftE T W wb σ H1 fun y H2 => K x y H2 :=
  lift1 R S hx hw fun ρ1 H1 h1 d v a rd q => lift1 a.rp (a.s S) (hx.aft a) q fun ρ2 H2 h2 e u b re q2 => k _ _ _ _ _ _ _ (a.trans b) (b.d rd) re q2
theorem liftT1 {w : BW} {Ra : Bool → Hh → Prop} {K : Bool → Hp → Prop} (R : Rp T ρ h H) (S : RelS T ρ H τ σ) (hx : LX T ρ H Qx W σ) (hw : w Ra Qx τ h) (k : ∀ ρ' H' h' b, Aft T ρ H ρ' h' H' → Ra b h' → K b H') : liftB T W w σ H K :=
  ⟨ρ, τ, h, Ra, Qx, R, S, hw, k, hx⟩
theorem okS_ans {r : Option (D × Hh)} {Qa : PQ} {Q : VK} (q : okS r Qa) (k : ∀ z h', Qa z h' → ∀ ρ' H' v, Aft T ρ H ρ' h' H' → RelD T ρ' H' z v → Q v H') : Ans T ρ H r Q := by
  unfold okS at q
  split at q
  · next z h' => exact ⟨z, h', rfl, k z h' q⟩
  · exact q.elim
theorem okB_of {r : Option Bool} {Q : Bool → Prop} (q : okB r Q) : ∃ b, r = some b ∧ Q b := by
  unfold okB at q
  split at q
  · next b => exact ⟨b, rfl, q⟩
  · exact q.elim
theorem PE.imp {e : Expr} {t t' : TE} (p : PE X e t) (i : ∀ σ H Q, t' σ H Q → t σ H Q) : PE X e t' := ⟨fun pins s σ H Q I w => p.run pins s σ H Q I (i σ H Q w)⟩
theorem PT.imp {e : Expr} {t t' : TT} (p : PT X e t) (i : ∀ σ H Q, t' σ H Q → t σ H Q) : PT X e t' := ⟨fun pins s σ H Q I w => p.run pins s σ H Q I (i σ H Q w)⟩
theorem PA.imp {es : List Expr} {t t' : TA} (p : PA X es t) (i : ∀ σ H Q, t' σ H Q → t σ H Q) : PA X es t' := ⟨fun pos pins s σ H Q I w => p.run pos pins s σ H Q I (i σ H Q w)⟩
theorem PS.imp {st : Stmt} {t t' : TS} (p : PS X st t) (i : ∀ D σ H, t' D σ H → t D σ H) : PS X st t' := ⟨fun pins s σ H D I w => p.run pins s σ H D I (i D σ H w)⟩
theorem PSs.imp {st : List Stmt} {t t' : TS} (p : PSs X st t) (i : ∀ D σ H, t' D σ H → t D σ H) : PSs X st t' := ⟨fun pins s σ H D I w => p.run pins s σ H D I (i D σ H w)⟩
/-- a test, by values -/
theorem tru_rT (hK : X.K = T.K) : TruR X (rTru T) := by
  intro pins s σ H x v Q I rv q
  obtain ⟨ρ, h, d, b, R, rd, e, q⟩ := q
  exact tru_run hK I R rd rv e fun s' I' => ⟨H, I', q⟩
theorem tst_of {Qa : Bool → Hh → Prop} {Q : Bool → Hp → Prop} (k : ∀ ρ' H' h' b, Aft T ρ H ρ' h' H' → Qa b h' → Q b H') : ∀ ρ' H' h' d v, Aft T ρ H ρ' h' H' → RelD T ρ' H' d v → (okB (truD h' d) fun t => Qa t h') → rTru T v H' Q := fun ρ' H' h' d v a rd q => by
  obtain ⟨b, e, q⟩ := okB_of q
  exact ⟨ρ', h', d, b, a.rp, rd, e, k _ _ _ _ a q⟩

/-! ### names, constants -/
theorem me_k {e : Expr} {d : D} {v : V} (p : PE X e (tC v)) (r : ∀ ρ H, RelD T ρ H d v) : PE X e (liftE T W fun Q _ _ h => Q d h) := PE.imp p fun σ H Q ⟨ρ, τ, h, Qa, Qx, R, S, q, k, _⟩ => k _ _ _ _ _ (.refl R) (r ρ H) q
theorem me_v {i : Nat} {x : Str} {pos : Pos} (hN : X.N[i]? = some x) (hv : Vis X.env.scope x) (hd : (x == ("__debug__" : Str)) = false) (hcd : (x == ("__classdict__" : Str)) = false) :
    PE X (.Name x pos) (liftE T W fun Q _ τ h => match τ[i]? with
    | some (some d) => Q d h
    | _ => False) := PE.imp (pe_var hN hv hd hcd) fun σ H Q ⟨ρ, τ, h, Qa, Qx, R, S, q, k, _⟩ => by
  dsimp only at q
  split at q
  · next d e =>
    obtain ⟨v, e1, r⟩ := S.2 i d e
    exact ⟨v, e1, k _ _ _ _ _ (.refl R) r q⟩
  · exact q.elim

/-! ### argument lists, displays -/
theorem ma_nil : PA X [] (liftA T W fun Q _ _ h => Q [] h) := PA.imp pa_nil fun σ H Q ⟨ρ, τ, h, Qa, Qx, R, S, q, k, _⟩ => k _ _ _ _ _ (.refl R) .nil q
theorem ma_cons {e : Expr} {es : List Expr} {w : EW} {ws : AW} (ha : PE X e (liftE T W w)) (hr : PA X es (liftA T W ws)) (hs : starEach (e :: es) X.env = (false, eval e X.env) :: starEach es X.env) :
    PA X (e :: es) (liftA T W fun Q Qx τ h => w (fun d h1 => ws (fun ds h2 => Q (d :: ds) h2) Qx τ h1) Qx τ h) := PA.imp (pa_cons ha hr hs) fun σ H Q ⟨ρ, τ, h, Qa, Qx, R, S, q, k, hx⟩ =>
  lift1 R S hx q fun ρ1 H1 h1 d v a rd q1 => ⟨ρ1, τ, h1, _, Qx, a.rp, a.s S, q1, fun ρ2 H2 h2 ds vs b rs q2 => k _ _ _ _ _ (a.trans b) (.cons (b.d rd) rs) q2, hx.aft a⟩
theorem me_tup {es : List Expr} {x1 : Nat} {pos : Pos} {ws : AW} (ha : PA X es (liftA T W ws)) : PE X (.Tuple es x1 pos) (liftE T W fun Q Qx τ h => ws (fun ds h' => ds.length ≤ sizeLine ∧ Q (.tup ds) h') Qx τ h) :=
  PE.imp (pe_tup ha) fun σ H Q ⟨ρ, τ, h, Qa, Qx, R, S, q, k, hx⟩ => ⟨ρ, τ, h, _, Qx, R, S, q, fun ρ1 H1 h1 ds vs a rs ⟨z, q1⟩ =>
    ⟨by rw [← rs.length]; exact z, fun p hp => k _ _ _ _ _ (a.trans (.tup a.rp hp)) (tup_new hp rs) q1⟩, hx⟩
theorem me_lst {es : List Expr} {pos : Pos} {ws : AW} (ha : PA X es (liftA T W ws)) : PE X (.List es pos) (liftE T W fun Q Qx τ h => ws (fun ds h' => ds.length ≤ sizeLine ∧ Q (.ref h'.length) (h' ++ [.lst ds])) Qx τ h) :=
  PE.imp (pe_lst ha) fun σ H Q ⟨ρ, τ, h, Qa, Qx, R, S, q, k, hx⟩ => ⟨ρ, τ, h, _, Qx, R, S, q, fun ρ1 H1 h1 ds vs a rs ⟨z, q1⟩ =>
    ⟨by rw [← rs.length]; exact z, fun p hp => k _ _ _ _ _ (a.trans (.lst a.rp hp rs)) (ref_new a.rp) q1⟩, hx⟩

/-! ### operators -/
theorem r2_of {f : S2} {Qa : PQ} {Q : VK} (k : LQ T ρ H Qa Q) : ∀ ρ' H' h' d e v u, Aft T ρ H ρ' h' H' → RelD T ρ' H' d v → RelD T ρ' H' e u → okS (f h' d e) Qa → r2 T f v u H' Q := fun ρ' H' h' d e v u a rd re q =>
  ⟨ρ', h', d, e, a.rp, rd, re, okS_ans q fun z h2 q2 ρ2 H2 v b r => k _ _ _ _ _ (a.trans b) r q2⟩
theorem me_op {op : Operator} {f : S2} {a b : Expr} {pos : Pos} {wa wb : EW} (ho : OpR X (binaryOp op) (r2 T f)) (ha : PE X a (liftE T W wa)) (hb : PE X b (liftE T W wb)) :
    PE X (.BinOp a op b pos) (liftE T W fun Q Qx τ h => wa (fun x h1 => wb (fun y h2 => okS (f h2 x y) Q) Qx τ h1) Qx τ h) :=
  PE.imp (pe_op ho ha hb) fun σ H Q ⟨ρ, τ, h, Qa, Qx, R, S, q, k, hx⟩ => lift2 R S hx q (r2_of k)
theorem me_ix {f : S2} {a b : Expr} {pos : Pos} {wa wb : EW} (ho : IxR X (r2 T f)) (ha : PE X a (liftE T W wa)) (hb : PE X b (liftE T W wb)) (hs : PlainIx b) :
    PE X (.Subscript a b pos) (liftE T W fun Q Qx τ h => wa (fun x h1 => wb (fun y h2 => okS (f h2 x y) Q) Qx τ h1) Qx τ h) :=
  PE.imp (pe_ix ho ha hb hs) fun σ H Q ⟨ρ, τ, h, Qa, Qx, R, S, q, k, hx⟩ => lift2 R S hx q (r2_of k)
theorem me_cmp {op : CmpOp} {f : S2} {a b : Expr} {pos : Pos} {wa wb : EW} (ho : OpR X (compareOp op) (r2 T f)) (ha : PE X a (liftE T W wa)) (hb : PE X b (liftE T W wb)) (hm : behindInMarks op b = false) :
    PE X (.Compare a [op] [b] pos) (liftE T W fun Q Qx τ h => wa (fun x h1 => wb (fun y h2 => okS (f h2 x y) Q) Qx τ h1) Qx τ h) :=
  PE.imp (pe_cmpR ho ha hb hm) fun σ H Q ⟨ρ, τ, h, Qa, Qx, R, S, q, k, hx⟩ => lift2 R S hx q (r2_of k)
theorem mt_cmp (hK : X.K = T.K) {op : CmpOp} {f : S2} {a b : Expr} {pos : Pos} {wa wb : EW} (ho : OpR X (compareOp op) (r2 T f)) (ha : PE X a (liftE T W wa)) (hb : PE X b (liftE T W wb)) (hm : behindInMarks op b = false) :
    PT X (.Compare a [op] [b] pos) (liftB T W (tst fun Q Qx τ h => wa (fun x h1 => wb (fun y h2 => okS (f h2 x y) Q) Qx τ h1) Qx τ h)) := by
  refine ⟨fun pins s σ H Q I hw => ?_⟩
  obtain ⟨ρ, τ, h, Qa, Qx, R, S, q, k, hx⟩ := hw
  have z := lift2 (K := fun x y H' => r2 T f x y H' fun v H2 => rTru T v H2 Q) R S hx q fun ρ' H' h' d e v u a rd re q2 => r2_of (tst_of k) _ _ _ _ _ _ _ a rd re q2
  refine wpAny_isTrue_Compare1 (thn (ha.run pins s σ H _ I z) fun v s1 ⟨x, H1, I1, r1, q1⟩ => thn (hb.run pins s1 σ H1 _ I1 q1) fun u s2 ⟨y, H2, I2, r2, q2⟩ =>
    thn (ho pins s2 σ H2 x y v u _ I2 r1 r2 q2) fun c s3 ⟨z, H3, I3, r3, q3⟩ => tru_rT hK pins s3 σ H3 z c Q I3 r3 q3) hm
theorem me_un {f : Hh → D → Option (D × Hh)} {a : Expr} {pos : Pos} {op : UnaryOp} {wa : EW} (ho : UnR X (unaryOp op) fun x H Q => ∃ ρ h d, Rp T ρ h H ∧ RelD T ρ H d x ∧ Ans T ρ H (f h d) Q) (ha : PE X a (liftE T W wa)) :
    PE X (.UnaryOp op a pos) (liftE T W fun Q Qx τ h => wa (fun x h1 => okS (f h1 x) Q) Qx τ h) :=
  PE.imp (pe_un ho ha) fun σ H Q ⟨ρ, τ, h, Qa, Qx, R, S, q, k, hx⟩ => lift1 R S hx q fun ρ1 H1 h1 d v a rd q1 => ⟨ρ1, h1, d, a.rp, rd, okS_ans q1 fun z h2 q2 ρ2 H2 v b r => k _ _ _ _ _ (a.trans b) r q2⟩
theorem me_neg {a : Expr} {pos : Pos} {wa : EW} (ha : PE X a (liftE T W wa)) : PE X (.UnaryOp .USub a pos) (liftE T W fun Q Qx τ h => wa (fun x h1 => match x with
      | .int i => Q (.int (-i)) h1
      | _ => False) Qx τ h) :=
  PE.imp (pe_un un_neg ha) fun σ H Q ⟨ρ, τ, h, Qa, Qx, R, S, q, k, hx⟩ => lift1 R S hx q fun ρ1 H1 h1 d v a rd q1 => by
    split at q1
    · next i => cases relI rd; exact ⟨i, rfl, k _ _ _ _ _ a (.int _) q1⟩
    · exact q1.elim
/-- a op b op' c -/
def wChain (f g : S2) (wa wb wc : EW) : EW := fun Q Qx τ h => wa (fun x h1 => wb (fun y h2 => okS (f h2 x y) fun z h3 => match z with
      | .bl t => if t = true then wc (fun w h4 => okS (g h4 y w) Q) Qx τ h3 else Q (.bl false) h3
      | _ => False) Qx τ h1) Qx τ h
theorem chain_of {f g : S2} {wa wb wc : EW} {Qa : PQ} {Q : VK} (R : Rp T ρ h H) (S : RelS T ρ H τ σ) (hx : LX T ρ H Qx W σ) (q : wChain f g wa wb wc Qa Qx τ h) (k : LQ T ρ H Qa Q) :
    tChain (r2 T f) (r2 T g) (liftE T W wa) (liftE T W wb) (liftE T W wc) σ H Q :=
  lift2 R S hx q fun ρ1 H1 h1 d e v u a rd re q1 => ⟨ρ1, h1, d, e, a.rp, rd, re, okS_ans q1 fun z h2 q2 ρ2 H2 zv b rz => by
    try dsimp only at q2
    split at q2
    · next t =>
      refine ⟨t, relB rz, ?_⟩
      cases t with
      | false => simp only [Bool.false_eq_true, if_false] at q2 ⊢; exact k _ _ _ _ _ (a.trans b) (.bl false) q2
      | true =>
        simp only [if_true] at q2 ⊢
        exact lift1 b.rp (b.s (a.s S)) ((hx.aft a).aft b) q2 fun ρ3 H3 h3 w wv c rw q3 => ⟨ρ3, h3, e, w, c.rp, c.d (b.d re), rw, okS_ans q3 fun z h4 q4 ρ4 H4 v dd r => k _ _ _ _ _ (((a.trans b).trans c).trans dd) r q4⟩
    · exact q2.elim⟩
theorem me_chain {op op' : CmpOp} {f g : S2} {a b c : Expr} {pos : Pos} {wa wb wc : EW} (ho : OpR X (compareOp op) (r2 T f)) (ho' : OpR X (compareOp op') (r2 T g)) (ha : PE X a (liftE T W wa)) (hb : PE X b (liftE T W wb)) (hc : PE X c (liftE T W wc)) (hm : lastMarks [op, op'] [b, c] = false) :
    PE X (.Compare a [op, op'] [b, c] pos) (liftE T W (wChain f g wa wb wc)) :=
  PE.imp (pe_chain ho ho' ha hb hc hm) fun σ H Q ⟨ρ, τ, h, Qa, Qx, R, S, q, k, hx⟩ => chain_of R S hx q k
/-- as a test, where what comes is a bool -/
def Blf (f : S2) : Prop := ∀ h x y z h', f h x y = some (z, h') → ∃ b, z = .bl b
theorem mt_chain (hK : X.K = T.K) {op op' : CmpOp} {f g : S2} {a b c : Expr} {pos : Pos} {wa wb wc : EW} (hg : Blf g) (ho : OpR X (compareOp op) (r2 T f)) (ho' : OpR X (compareOp op') (r2 T g)) (ha : PE X a (liftE T W wa)) (hb : PE X b (liftE T W wb)) (hc : PE X c (liftE T W wc)) (hm : lastMarks [op, op'] [b, c] = false) :
    PT X (.Compare a [op, op'] [b, c] pos) (liftB T W (tst (wChain f g wa wb wc))) :=
  PT.imp (pt_chain ho ho' ha hb hc hm) fun σ H Q ⟨ρ, τ, h, Qa, Qx, R, S, q, k, hx⟩ => by
    refine lift2 R S hx q fun ρ1 H1 h1 d e v u a rd re q1 => ⟨ρ1, h1, d, e, a.rp, rd, re, okS_ans q1 fun z h2 q2 ρ2 H2 zv b rz => ?_⟩
    try dsimp only at q2
    split at q2
    · next t =>
      refine ⟨t, relB rz, ?_⟩
      cases t with
      | false =>
        simp only [Bool.false_eq_true, if_false] at q2 ⊢
        obtain ⟨b', e', q3⟩ := okB_of q2
        cases e'
        exact ⟨false, rfl, k _ _ _ _ (a.trans b) q3⟩
      | true =>
        simp only [if_true] at q2 ⊢
        refine lift1 b.rp (b.s (a.s S)) ((hx.aft a).aft b) q2 fun ρ3 H3 h3 w wv c rw q3 => ⟨ρ3, h3, e, w, c.rp, c.d (b.d re), rw, ?_⟩
        unfold okS at q3
        split at q3
        · next z h4 e4 =>
          obtain ⟨bb, rfl⟩ := hg _ _ _ _ _ e4
          obtain ⟨b', e', q5⟩ := okB_of q3
          cases e'
          refine ⟨_, _, e4, fun ρ4 H4 v dd r => ⟨bb, relB r, k _ _ _ _ (((a.trans b).trans c).trans dd) q5⟩⟩
        · exact q3.elim
    · exact q2.elim

/-! ### truth -/
theorem mt_true (hK : X.K = T.K) {a : Expr} {wa : EW} (ha : PE X a (liftE T W wa)) (he : ∀ whole, isTrue a X.env whole = (do let v ← whole; standAt a.pos; holding [v] (truthy v))) : PT X a (liftB T W (tst wa)) := by
  refine ⟨fun pins s σ H Q I hw => ?_⟩
  obtain ⟨ρ, τ, h, Qa, Qx, R, S, q, k, hx⟩ := hw
  exact isTrue_plain (thn (ha.run pins s σ H _ I (lift1 R S hx q (tst_of k))) fun v s1 ⟨x, H1, I1, r1, q1⟩ => tru_rT hK pins s1 σ H1 x v Q I1 r1 q1) (he _)
/-- from a test: its not, as a value and as a test -/
theorem me_not (hK : X.K = T.K) {a : Expr} {pos : Pos} {wa : EW} (ha : PE X a (liftE T W wa)) : PE X (.UnaryOp .Not a pos) (liftE T W fun Q Qx τ h => wa (fun x h1 => okB (truD h1 x) fun t => Q (.bl (!t)) h1) Qx τ h) := by
  refine ⟨fun pins s σ H Q I hw => ?_⟩
  obtain ⟨ρ, τ, h, Qa, Qx, R, S, q, k, hx⟩ := hw
  have z := lift1 (K := fun v H' => rTru T v H' fun t H2 => Q (.bl (!t)) H2) R S hx q (tst_of (Qa := fun t h1 => Qa (.bl (!t)) h1) fun ρ' H' h' b a q => k _ _ _ _ _ a (.bl _) q)
  refine UnaryOp_ (thn (ha.run pins s σ H _ I z) fun v s1 ⟨x, H1, I1, r1, q1⟩ => ?_)
  exact not_of (thn (tru_rT hK pins s1 σ H1 x v _ I1 r1 q1) fun c s2 ⟨H2, I2, q2⟩ => ⟨.bl (!c), H2, I2, rfl, q2⟩)
theorem mt_not {a : Expr} {pos : Pos} {wa : EW} (ha : PT X a (liftB T W (tst wa))) : PT X (.UnaryOp .Not a pos) (liftB T W (tst fun Q Qx τ h => wa (fun x h1 => okB (truD h1 x) fun t => Q (.bl (!t)) h1) Qx τ h)) :=
  PT.imp (pt_not ha) fun σ H Q ⟨ρ, τ, h, Qa, Qx, R, S, q, k, hx⟩ => liftT1 (Ra := fun t h1 => Qa (!t) h1) R S hx q fun ρ' H' h' b a q => k _ _ _ _ a q
/-- and, or -/
def wAnd (wa wb : EW) : EW := fun Q Qx τ h => wa (fun x h1 => okB (truD h1 x) fun t => if t = true then wb Q Qx τ h1 else Q x h1) Qx τ h
def wOr (wa wb : EW) : EW := fun Q Qx τ h => wa (fun x h1 => okB (truD h1 x) fun t => if t = true then Q x h1 else wb Q Qx τ h1) Qx τ h
theorem rTru_val {x : V} {R : V → Bool → Hp → Prop} (q : ∃ ρ h d b, Rp T ρ h H ∧ RelD T ρ H d x ∧ truD h d = some b ∧ R x b H) : rTru T x H fun b H' => R x b H' := q
theorem me_and (hK : X.K = T.K) {a b : Expr} {rest : List Expr} {pos : Pos} {wa wb : EW} (ha : PE X a (liftE T W wa)) (hb : PE X (.BoolOp .And (b :: rest) pos) (liftE T W wb)) : PE X (.BoolOp .And (a :: b :: rest) pos) (liftE T W (wAnd wa wb)) := by
  refine ⟨fun pins s σ H Q I hw => ?_⟩
  obtain ⟨ρ, τ, h, Qa, Qx, R, S, q, k, hx⟩ := hw
  have z := lift1 (K := fun v H' => ∃ ρ' h' d b, Rp T ρ' h' H' ∧ RelD T ρ' H' d v ∧ truD h' d = some b ∧ if b = true then liftE T W wb σ H' Q else Q v H') R S hx (show wa (fun x h1 => okB (truD h1 x) fun t => if t = true then wb Qa Qx τ h1 else Qa x h1) Qx τ h from q) fun ρ' H' h' d v a rd q1 => by
    obtain ⟨t, e, q1⟩ := okB_of q1
    refine ⟨ρ', h', d, t, a.rp, rd, e, ?_⟩
    cases t with
    | false => simp only [Bool.false_eq_true, if_false] at q1 ⊢; exact k _ _ _ _ _ a rd q1
    | true => simp only [if_true] at q1 ⊢; exact ⟨ρ', τ, h', Qa, Qx, a.rp, a.s S, q1, fun ρ2 H2 h2 d v b r q2 => k _ _ _ _ _ (a.trans b) r q2, hx.aft a⟩
  refine BoolOp_and (thn (ha.run pins s σ H _ I z) fun v s1 ⟨x, H1, I1, r1, ρ', h', d, t, R1, rd, e, q1⟩ => ?_)
  refine tru_run hK I1 R1 rd r1 e fun s2 I2 => ?_
  cases t with
  | true => exact hb.run pins s2 σ H1 Q I2 (by simpa using q1)
  | false => exact ⟨x, H1, I2, r1, by simpa using q1⟩
theorem me_or (hK : X.K = T.K) {a b : Expr} {rest : List Expr} {pos : Pos} {wa wb : EW} (ha : PE X a (liftE T W wa)) (hb : PE X (.BoolOp .Or (b :: rest) pos) (liftE T W wb)) : PE X (.BoolOp .Or (a :: b :: rest) pos) (liftE T W (wOr wa wb)) := by
  refine ⟨fun pins s σ H Q I hw => ?_⟩
  obtain ⟨ρ, τ, h, Qa, Qx, R, S, q, k, hx⟩ := hw
  have z := lift1 (K := fun v H' => ∃ ρ' h' d b, Rp T ρ' h' H' ∧ RelD T ρ' H' d v ∧ truD h' d = some b ∧ if b = true then Q v H' else liftE T W wb σ H' Q) R S hx (show wa (fun x h1 => okB (truD h1 x) fun t => if t = true then Qa x h1 else wb Qa Qx τ h1) Qx τ h from q) fun ρ' H' h' d v a rd q1 => by
    obtain ⟨t, e, q1⟩ := okB_of q1
    refine ⟨ρ', h', d, t, a.rp, rd, e, ?_⟩
    cases t with
    | true => simp only [if_true] at q1 ⊢; exact k _ _ _ _ _ a rd q1
    | false => simp only [Bool.false_eq_true, if_false] at q1 ⊢; exact ⟨ρ', τ, h', Qa, Qx, a.rp, a.s S, q1, fun ρ2 H2 h2 d v b r q2 => k _ _ _ _ _ (a.trans b) r q2, hx.aft a⟩
  refine BoolOp_or (thn (ha.run pins s σ H _ I z) fun v s1 ⟨x, H1, I1, r1, ρ', h', d, t, R1, rd, e, q1⟩ => ?_)
  refine tru_run hK I1 R1 rd r1 e fun s2 I2 => ?_
  cases t with
  | true => exact ⟨x, H1, I2, r1, by simpa using q1⟩
  | false => exact hb.run pins s2 σ H1 Q I2 (by simpa using q1)
theorem PW.imp {e : Expr} {t t' : TT} (p : PW X e t) (i : ∀ σ H Q, t' σ H Q → t σ H Q) : PW X e t' := ⟨fun wh pins s σ H Q I w => p.run wh pins s σ H Q I (i σ H Q w)⟩
theorem mw_and {a b : Expr} {rest : List Expr} {pos : Pos} {wa wb : EW} (ha : PT X a (liftB T W (tst wa))) (hb : PW X (.BoolOp .And (b :: rest) pos) (liftB T W (tst wb))) : PW X (.BoolOp .And (a :: b :: rest) pos) (liftB T W (tst (wAnd wa wb))) :=
  PW.imp (pw_and ha hb) fun σ H Q ⟨ρ, τ, h, Qa, Qx, R, S, q, k, hx⟩ => by
    refine liftT1 (Ra := fun t h1 => if t = true then tst wb Qa Qx τ h1 else Qa false h1) R S hx ?_ fun ρ' H' h' b a q1 => ?_
    · show wa _ Qx τ h
      have e : (fun x h1 => okB (truD h1 x) fun t => if t = true then tst wb Qa Qx τ h1 else Qa false h1) = fun x h1 => okB (truD h1 x) fun t => if t = true then wb (fun x h1 => okB (truD h1 x) fun t => Qa t h1) Qx τ h1 else okB (truD h1 x) fun t => Qa t h1 := by
        funext x h1
        cases hh : truD h1 x with
        | none => rfl
        | some t => cases t <;> rfl
      rw [e]
      exact q
    · cases b with
      | false => simp only [Bool.false_eq_true, if_false] at q1 ⊢; exact k _ _ _ _ a q1
      | true => simp only [if_true] at q1 ⊢; exact ⟨ρ', τ, h', Qa, Qx, a.rp, a.s S, q1, fun ρ2 H2 h2 t b q2 => k _ _ _ _ (a.trans b) q2, hx.aft a⟩
theorem mw_or {a b : Expr} {rest : List Expr} {pos : Pos} {wa wb : EW} (ha : PT X a (liftB T W (tst wa))) (hb : PW X (.BoolOp .Or (b :: rest) pos) (liftB T W (tst wb))) : PW X (.BoolOp .Or (a :: b :: rest) pos) (liftB T W (tst (wOr wa wb))) :=
  PW.imp (pw_or ha hb) fun σ H Q ⟨ρ, τ, h, Qa, Qx, R, S, q, k, hx⟩ => by
    refine liftT1 (Ra := fun t h1 => if t = true then Qa true h1 else tst wb Qa Qx τ h1) R S hx ?_ fun ρ' H' h' b a q1 => ?_
    · show wa _ Qx τ h
      have e : (fun x h1 => okB (truD h1 x) fun t => if t = true then Qa true h1 else tst wb Qa Qx τ h1) = fun x h1 => okB (truD h1 x) fun t => if t = true then okB (truD h1 x) fun t => Qa t h1 else wb (fun x h1 => okB (truD h1 x) fun t => Qa t h1) Qx τ h1 := by
        funext x h1
        cases hh : truD h1 x with
        | none => rfl
        | some t => cases t <;> rfl
      rw [e]
      exact q
    · cases b with
      | true => simp only [if_true] at q1 ⊢; exact k _ _ _ _ a q1
      | false => simp only [Bool.false_eq_true, if_false] at q1 ⊢; exact ⟨ρ', τ, h', Qa, Qx, a.rp, a.s S, q1, fun ρ2 H2 h2 t b q2 => k _ _ _ _ (a.trans b) q2, hx.aft a⟩
/-- a if c else b -/
def wIte (wc wa wb : EW) : EW := fun Q Qx τ h => wc (fun x h1 => okB (truD h1 x) fun t => if t = true then wa Q Qx τ h1 else wb Q Qx τ h1) Qx τ h
theorem me_ite {a b c : Expr} {pos : Pos} {wa wb wc : EW} (hc : PT X c (liftB T W (tst wc))) (ha : PE X a (liftE T W wa)) (hb : PE X b (liftE T W wb)) : PE X (.IfExp c a b pos) (liftE T W (wIte wc wa wb)) :=
  PE.imp (pe_ifExp hc ha hb) fun σ H Q ⟨ρ, τ, h, Qa, Qx, R, S, q, k, hx⟩ => by
    refine liftT1 (Ra := fun t h1 => if t = true then wa Qa Qx τ h1 else wb Qa Qx τ h1) R S hx q fun ρ' H' h' b a q1 => ?_
    cases b with
    | false => simp only [Bool.false_eq_true, if_false] at q1 ⊢; exact ⟨ρ', τ, h', Qa, Qx, a.rp, a.s S, q1, fun ρ2 H2 h2 d v b r q2 => k _ _ _ _ _ (a.trans b) r q2, hx.aft a⟩
    | true => simp only [if_true] at q1 ⊢; exact ⟨ρ', τ, h', Qa, Qx, a.rp, a.s S, q1, fun ρ2 H2 h2 d v b r q2 => k _ _ _ _ _ (a.trans b) r q2, hx.aft a⟩
theorem mt_ite {a b c : Expr} {pos : Pos} {wa wb wc : EW} (hc : PT X c (liftB T W (tst wc))) (ha : PT X a (liftB T W (tst wa))) (hb : PT X b (liftB T W (tst wb))) : PT X (.IfExp c a b pos) (liftB T W (tst (wIte wc wa wb))) := by
  refine ⟨fun pins s σ H Q I hw => ?_⟩
  obtain ⟨ρ, τ, h, Qa, Qx, R, S, q, k, hx⟩ := hw
  have z := liftT1 (w := tst wc) (K := fun t H' => if t = true then liftB T W (tst wa) σ H' Q else liftB T W (tst wb) σ H' Q) (Ra := fun t h1 => if t = true then tst wa Qa Qx τ h1 else tst wb Qa Qx τ h1) R S hx q fun ρ' H' h' b a q1 => by
    cases b with
    | false => simp only [Bool.false_eq_true, if_false] at q1 ⊢; exact ⟨ρ', τ, h', Qa, Qx, a.rp, a.s S, q1, fun ρ2 H2 h2 t b q2 => k _ _ _ _ (a.trans b) q2, hx.aft a⟩
    | true => simp only [if_true] at q1 ⊢; exact ⟨ρ', τ, h', Qa, Qx, a.rp, a.s S, q1, fun ρ2 H2 h2 t b q2 => k _ _ _ _ (a.trans b) q2, hx.aft a⟩
  refine isTrue_IfExp (thn (hc.run pins s σ H _ I z) fun d s1 ⟨H1, I1, q1⟩ => ?_)
  cases d with
  | true => exact ha.run pins s1 σ H1 Q I1 (by simpa using q1)
  | false => exact hb.run pins s1 σ H1 Q I1 (by simpa using q1)

/-! ### slices -/
theorem PO.imp {e : Option Expr} {t t' : TO} (p : PO X e t) (i : ∀ σ H Q, t' σ H Q → t σ H Q) : PO X e t' := ⟨fun pins s σ H Q I w => p.run pins s σ H Q I (i σ H Q w)⟩
theorem mo_none : PO X none (liftO T W fun Q _ _ h => Q none h) := PO.imp po_none fun σ H Q ⟨ρ, τ, h, Qa, Qx, R, S, q, k, _⟩ => k _ _ _ _ (.refl R) q
theorem mo_some {e : Expr} {w : EW} (ha : PE X e (liftE T W w)) : PO X (some e) (liftO T W fun Q Qx τ h => w (fun x h1 => match x with
      | .int i => Q (some i) h1
      | _ => False) Qx τ h) := PO.imp (po_some ha) fun σ H Q ⟨ρ, τ, h, Qa, Qx, R, S, q, k, hx⟩ => lift1 R S hx q fun ρ1 H1 h1 d v a rd q1 => by
    split at q1
    · next i => exact ⟨i, relI rd, k _ _ _ _ a q1⟩
    · exact q1.elim
theorem me_sl (hK : X.K = T.K) {a : Expr} {lo hi : Option Expr} {p2 pos : Pos} {wa : EW} {wl wh : OW} (ha : PE X a (liftE T W wa)) (hl : PO X lo (liftO T W wl)) (hh : PO X hi (liftO T W wh)) :
    PE X (.Subscript a (.Slice lo hi none p2) pos) (liftE T W fun Q Qx τ h => wa (fun x h1 => wl (fun l h2 => wh (fun u h3 => okS (slS h3 x l u) Q) Qx τ h2) Qx τ h1) Qx τ h) :=
  PE.imp (pe_slice (sl_slS hK) ha hl hh) fun σ H Q ⟨ρ, τ, h, Qa, Qx, R, S, q, k, hx⟩ => lift1 R S hx q fun ρ1 H1 h1 d v a rd q1 =>
    ⟨ρ1, τ, h1, _, Qx, a.rp, a.s S, q1, fun ρ2 H2 h2 l b q2 => ⟨ρ2, τ, h2, _, Qx, b.rp, b.s (a.s S), q2, fun ρ3 H3 h3 u c q3 => ⟨ρ3, h3, d, c.rp, c.d (b.d rd), okS_ans q3 fun z h4 q4 ρ4 H4 v dd r => k _ _ _ _ _ (((a.trans b).trans c).trans dd) r q4⟩, (hx.aft a).aft b⟩, hx.aft a⟩
theorem me_rev (hK : X.K = T.K) {e : Expr} {n : Nat} {p1 p2 p3 pos : Pos} {wa : EW} (ha : PE X e (liftE T W wa)) : PE X (.Subscript e (.Slice none none (some (.UnaryOp .USub (.Constant (.int 1) n p1) p2)) p3) pos) (liftE T W fun Q Qx τ h => wa (fun x h1 => okS (revS h1 x) Q) Qx τ h) :=
  PE.imp (pe_revA ha) fun σ H Q ⟨ρ, τ, h, Qa, Qx, R, S, q, k, hx⟩ => lift1 R S hx q fun ρ1 H1 h1 d v a rd q1 => by
    unfold revS at q1
    split at q1
    · next ds =>
      obtain ⟨p, vs, rfl, hp, rs⟩ := relT rd
      exact ⟨p, vs, rfl, .inr ⟨.of hp, fun p' hn => k _ _ _ _ _ (a.trans (.tup a.rp hn)) (tup_new hn rs.reverse) q1⟩⟩
    · next i =>
      cases e : asL h1 (.ref i) with
      | none => rw [e] at q1; exact q1.elim
      | some ds =>
        rw [e] at q1
        obtain ⟨p, vs, rfl, hq, rs⟩ := a.rp.asL rd e
        exact ⟨p, vs, rfl, .inl ⟨by rw [hK]; exact hq, fun p' hn => k _ _ _ _ _ (a.trans (.lst a.rp hn rs.reverse)) (ref_new a.rp) q1⟩⟩
    · exact q1.elim
end
end Mi

set_option Elab.async false
set_option linter.all false
set_option maxRecDepth 100000
set_option maxHeartbeats 1000000
/-! Mi: calls; exceptions as values. -/
namespace PySem.W
open PySem PySem.Spec PyProof.Rows
section
variable {K : Frag} {x D : Addr} {prog : Program} {w : World} {A : Around} {E : Value → Shared → Prop} {s : Shared}
/-- an exception's class, asked of the object, whether or not it has a dict -/
theorem exc_class_any {ox : Obj} {od : Option Obj} {Q : Option Value → Shared → Prop} (C : L2.ExcC K D) (hf : findObj K D od "__class__" = some (.bind (.builtin "getset_descriptor.__get__") (.builtin "object.__class__"))) (X : K.In s.heap) (I : InstAt s.heap x ox D od)
    (h : Q (some (.ref D)) { s with toks := s.toks + 1 }) : wpAny (model prog w) A (getAttr? (.ref x) "__class__") Q E s := by
  obtain ⟨hga, hgt, hsub, _, _, _, _, hm⟩ := C
  obtain ⟨hp, g, d, t, os⟩ := s
  have T0 := I.type (M := model prog w)
  have isx : Looks (model prog w) hp (isInstance (.ref x) (.type "BaseException")) true := T0.andThen (looks_subIn X hsub)
  have no : (Value.builtin "BaseException.__getattribute__" == Value.builtin "object.__getattribute__") = false := by decide +kernel
  have no' : (onTheHeap (Value.ref D) && Value.builtin "BaseException.__getattribute__" == Value.builtin "object.__getattribute__") = false := by rw [no]; rfl
  unfold getAttr? getAttrBy? getAttrBy
  refine wpAny_bind (wpAny_mkText (wpAny_bind (wpAny_attempt (wpAny_holding (wpAny_bind (T0.at (wpAny_bind ((looks_findIn (M := model prog w) X hga).at ?_))))))))
  show wpAny _ _ (if (onTheHeap (Value.ref D) && Value.builtin "BaseException.__getattribute__" == Value.builtin "object.__getattribute__") = true then _ else _) _ _ _
  rw [no', if_neg Bool.false_ne_true]
  unfold getAttrByItsOwn hookBefore
  refine wpAny_bind ?_
  rw [if_pos (show onTheHeap (Value.ref D) = true from rfl)]
  refine (looks_findIn (M := model prog w) X hgt).at (wpAny_bind (wpAny_attempt (wpAny_holding ?_)))
  unfold callGetattribute
  rw [show (false && onTheHeap (Value.builtin "BaseException.__getattribute__")) = false from rfl, if_neg Bool.false_ne_true]
  unfold boundAndCalled
  rw [PySem.F.excAttr_ValueError.ga.bind (.ref x)]
  refine wpAny_bind (wpAny_pure ?_)
  show wpAny _ _ (call (.builtin "BaseException.__getattribute__") [.ref x, .str "__class__" t]) _ _ _
  refine wpAny_call (codeAny_call_builtin PySem.F.excAttr_ValueError.ga.plain PySem.F.entry_bexc_ga ?_)
  refine @check_slot (model prog w) _ _ ⟨hp, g, d, t + 1, os⟩ "BaseException.__getattribute__" "BaseException" "__getattribute__" (.ref x) [.str "__class__" t] [] _ (by decide +kernel) (by decide +kernel) isx (PySem.F.args_bexc_ga (.ref x) (.str "__class__" t)) ?_
  unfold Builtin.«object.__getattribute__»
  refine wpAny_bind (wpAny_of_eq (a := ((Value.ref x : Value), [Value.str "__class__" t])) (by first | rfl | (simp only [slotArgs]; rfl)) ?_)
  refine wpAny_bind (wpAny_pure (wpAny_bind (T0.at (wpAny_bind ((looks_find (M := model prog w) X I hf).at ?_)))))
  show wpAny _ _ (holding [Value.builtin "object.__class__"] (call (.builtin "getset_descriptor.__get__") [.builtin "object.__class__", .ref x, .ref D]) >>= ret) _ _ _
  refine wpAny_bind (wpAny_holding (wpAny_call (class_get (s := ⟨hp, g, d, t + 1, os⟩) (ox := ox) (od := od) X I hm (wpAny_pure ?_))))
  show wpAny _ _ (handedOut (.ref D)) _ _ _
  rw [handedOut_of (v := .ref D) rfl]
  first
    | exact wpAny_pure (wpAny_pure h)
    | exact wpAny_pure h
    | exact wpAny_pure (wpAny_bind (wpAny_pure (wpAny_pure h)))
theorem exc_kit {ox : Obj} {od : Option Obj} (C : L2.ExcC K D) (hf : findObj K D od "__class__" = some (.bind (.builtin "getset_descriptor.__get__") (.builtin "object.__class__"))) : KitX K (.ref x) (.ref D) (fun h => InstAt h x ox D od) where
  ty := fun _ _ _ I => I.type
  it := fun _ _ X _ => by
    obtain ⟨cd, hc, _⟩ := any_some C.hd
    unfold clsIn at hc
    split at hc
    · rename_i ho
      intro A' Q' E' s' k q
      unfold isType loadHead
      exact wpAny_bind (wpAny_loadPart (k _ _ (X _ _ ho)) (wpAny_pure q))
    · cases hc
  ne := fun h tp dd its n sl X htp => (handS_kitx_exc (x := x) (ox := ox) C.hg C.hk C.hs C.hd C.ha C.hn C.ht C.hm).ne h tp dd its n sl X htp
  ca := fun X I k => exc_class_any C hf X I k
end
end PySem.W
namespace Mi
open PySem PySem.Spec PyProof.Rows L2

/-- the written names -/
structure Gi where
  fns : List (Str × Nat)
  xcs : List (Str × Nat)
  cls : List (Str × Nat)
  cst : List (Str × D)
  free : List Str
/-- what a def promises, by what holds ahead of its call -/
def spF (T : Tab) (n : Nat) (c : List D → Hh → PQ → PX → Prop) : Sp := fun vs H Q E => vs.length = n ∧ ∃ ρ h ds Qa Qx, Rp T ρ h H ∧ RelDs T ρ H ds vs ∧ c ds h Qa Qx ∧ LQ T ρ H Qa Q ∧
  ∀ ρ' H' h' cc fs cls dx, Aft T ρ H ρ' h' H' → RelX T ρ' H' cc fs cls dx → Qx cc fs h' → E cls dx H'
/-- an own __init__ that stores its arguments, one in each field -/
def SpI (C : Addr) (xf : List Str) : Sp := fun vs H Q E => ∃ a args, vs = .ref a :: args ∧ args.length = xf.length ∧ H a = some (exo a C none) ∧
  ∀ H2 dx, H2 a = some (exo a C (some dx)) → H2 dx = some (exd dx (xf.zip args.reverse)) → H dx = none → dx ≠ a → (∀ b, b ≠ a → b ≠ dx → H2 b = H b) → Q .non H2
/-- how the class c makes its exceptions: without an own __init__; with one -/
inductive XMk (T : Tab) (Z : Zi) (P : Program) (w : World) (mg : Str → Option Value) (base : Heap) (c : Nat) : Prop where
  | plain {bmB : List Value} {B newId initId : String} (F : ExcBaseFacts B newId initId bmB) (q : PySem.W.excIn T.K (T.xa c) bmB newId = true) (m : ∀ ds fs, Z.mkf c ds = some fs → fs = [] ∧ ds.length ≤ 1000)
  | own {fI : Addr} {fd : FuncData} {ps : List Str} {k : Nat} (O : OexC T.K (T.xa c)) (iC : PySem.W.findIn T.K (.ref (T.xa c)) "__init__" = some (some (.ref fI))) (tI : PySem.W.typeIn T.K (.ref fI) = some (.type "function"))
      (F1 : FnOk P w T.K mg base (L2.CX P w) k fI fd ps (SpI (T.xa c) (T.xf c))) (hk : k ≤ 2) (hb : Binds T.K fd ps []) (m : ∀ ds fs, Z.mkf c ds = some fs → fs = ds.reverse ∧ ds.length = (T.xf c).length ∧ 0 < ds.length ∧ ds.length ≤ 1000)
structure Facts (G : Gi) (T : Tab) (Z : Zi) (C : Cal) (P : Program) (w : World) (mg : Str → Option Value) (base : Heap) (k : Nat) : Prop where
  fns : ∀ x f, (x, f) ∈ G.fns → ∃ fa fd ps, mg x = some (.ref fa) ∧ PySem.W.keepIn T.K (.ref fa) = true ∧ Binds T.K fd ps [] ∧ (∀ ds h Q Qx, C f ds h Q Qx → ds.length = ps.length) ∧ FnOk P w T.K mg base (L2.CX P w) k fa fd ps (spF T ps.length (C f))
  xcs : ∀ x c, (x, c) ∈ G.xcs → mg x = some (.ref (T.xa c)) ∧ PySem.W.keepIn T.K (.ref (T.xa c)) = true ∧ PySem.W.subIn T.K (.ref (T.xa c)) (.type "BaseException") = some true ∧ PySem.W.typeIn T.K (.ref (T.xa c)) = some (.type "type") ∧ XMk T Z P w mg base c
  fre : ∀ x, x ∈ G.free → mg x = none ∧ x ≠ "__name__"
  cst : ∀ x d, (x, d) ∈ G.cst → ∃ u v, mg x = some u ∧ RelV v u ∧ ∀ ρ H, RelD T ρ H d v
  cls : ∀ x c, (x, c) ∈ G.cls → ∃ cv v, (mg x = some cv ∨ (mg x = none ∧ bootBuiltins x = some cv ∧ x ≠ "__name__")) ∧ RelV v cv ∧ (∀ u, RelV v u → u = cv) ∧ PySem.W.kitOne T.K (.type "NoneType") cv = some false ∧
    ∀ e, e < Z.nx → PySem.W.kitOne T.K (.ref (T.xa e)) cv = some (Z.le e c) ∧ PySem.W.exmOne T.K (.ref (T.xa e)) cv = some (Z.le e c)
  own : ∀ e, e < Z.nx → ExcC T.K (T.xa e) ∧ ("__class__" : Str) ∉ T.xf e ∧ (T.xf e).Nodup ∧ ∀ f i, Z.fld e f = some i → (T.xf e)[i]? = some f ∧ PySem.W.findIn T.K (.ref (T.xa e)) f = some none
def noStar : Expr → Bool
  | .Starred .. => false
  | _ => true
theorem starEach_cons' {e : Expr} {es : List Expr} {env : Env} (h : noStar e = true) : starEach (e :: es) env = (false, eval e env) :: starEach es env := by
  cases e <;> first | rfl | cases h
theorem starEach_any {es : List Expr} {env : Env} {pos : Pos} (h : ∀ e ∈ es, noStar e = true) : (backTo pos (starEach es env)).any (·.1) = false := by
  induction es with
  | nil => rfl
  | cons e es ih =>
    rw [starEach_cons' (h e List.mem_cons_self)]
    show (false || (backTo pos (starEach es env)).any (·.1)) = false
    rw [ih fun x hx => h x (List.mem_cons_of_mem _ hx)]; rfl
theorem starEach_all {es : List Expr} {env : Env} {pos : Pos} (h : ∀ e ∈ es, noStar e = true) : (backTo pos (starEach es env)).all (fun x => !x.1) = true := by
  induction es with
  | nil => rfl
  | cons e es ih =>
    rw [starEach_cons' (h e List.mem_cons_self)]
    show (!false && (backTo pos (starEach es env)).all (fun x => !x.1)) = true
    rw [ih fun x hx => h x (List.mem_cons_of_mem _ hx)]; rfl
section
variable {X : Cx} {T : Tab} {W : WX} {ρ ρ' : List Addr} {H H' : Hp} {h h' : Hh} {σ : L2.St} {τ : Sl} {Qx : PX} {Z : Zi} {C : Cal} {G : Gi}

/-! ### a def's call -/
theorem me_call {k : Nat} {c : List D → Hh → PQ → PX → Prop} {fa : Addr} {fd : FuncData} {ps : List Str} {x : Str} {p pos : Pos} {es : List Expr} {ws : AW} (tk : Takes X W) (F : FnOk X.prog X.w X.K X.mg X.base (L2.CX X.prog X.w) k fa fd ps (spF T ps.length c)) (hr : Room k X.A) (hg : Gl X x) (hm : X.mg x = some (.ref fa)) (hk : PySem.W.keepIn X.K (.ref fa) = true)
    (hb : Binds X.K fd ps []) (hl : ∀ ds h Q Qx, c ds h Q Qx → ds.length = ps.length) (ha : PA X es (liftA T W ws)) (hdb : (x == ("__debug__" : Str)) = false) (hns : ∀ e ∈ es, noStar e = true) (hnil : es = [] → ∀ Q Qx τ h, ws Q Qx τ h → Q [] h) :
    PE X (.Call (.Name x p) es [] pos) (liftE T W fun Q Qx τ h => ws (fun ds h' => c ds h' Q Qx) Qx τ h) := by
  have core : ∀ σ H Q, liftE T W (fun Q Qx τ h => ws (fun ds h' => c ds h' Q Qx) Qx τ h) σ H Q → liftA T W ws σ H fun vs H1 => spF T ps.length c vs H1 Q (WE W σ) := fun σ H Q ⟨ρ, τ, h, Qa, Qx, R, S, q, k, hx⟩ =>
    ⟨ρ, τ, h, _, Qx, R, S, q, fun ρ1 H1 h1 ds vs a rs q1 => ⟨by rw [← rs.length]; exact hl _ _ _ _ q1, ρ1, h1, ds, Qa, Qx, a.rp, rs, q1, fun ρ2 H2 h2 d v b r q2 => k _ _ _ _ _ (a.trans b) r q2, fun ρ2 H2 h2 cc fs cls dx b r q2 => hx _ _ _ _ _ _ _ (a.trans b) r q2⟩, hx⟩
  cases es with
  | cons e es => exact PE.imp (pe_callS F hr hg hm hk hb (passAt tk) ha hdb (starEach_cons' (hns e List.mem_cons_self)) (starEach_any fun y hy => hns y (List.mem_cons_of_mem _ hy))) core
  | nil =>
    refine ⟨fun pins s σ H Q I hw => ?_⟩
    obtain ⟨ρ, τ, h, Qa, Qx, R, S, q, k, hx⟩ := hw
    have q1 := hnil rfl _ _ _ _ q
    refine wpAny_Call_Name_kw (ld_glob I hg hm ?_ hdb)
    refine PySem.W.callWith_K0 I.kIn hk (run_fnS F hr hb (passAt tk σ) I .nil ?_)
    exact ⟨hl _ _ _ _ q1, ρ, h, [], Qa, Qx, R, .nil, q1, k, hx⟩

/-! ### built-ins -/
theorem me_bi {f : SN} {id : String} {x : Str} {p pos : Pos} {e : Expr} {es : List Expr} {ws : AW} (hc : CallR X (.builtin id) (rN T f)) (hg : Gl X x) (hm : X.mg x = none) (hv : bootBuiltins x = some (.builtin id)) (hn : x ≠ "__name__") (hdb : (x == ("__debug__" : Str)) = false)
    (ha : PA X (e :: es) (liftA T W ws)) (hns : ∀ y ∈ e :: es, noStar y = true) : PE X (.Call (.Name x p) (e :: es) [] pos) (liftE T W fun Q Qx τ h => ws (fun ds h' => okS (f h' ds) Q) Qx τ h) :=
  PE.imp (pe_callB hc hg hm hv ha hn hdb (starEach_cons' (hns e List.mem_cons_self)) (starEach_any fun y hy => hns y (List.mem_cons_of_mem _ hy))) fun σ H Q ⟨ρ, τ, h, Qa, Qx, R, S, q, k, hx⟩ =>
    ⟨ρ, τ, h, _, Qx, R, S, q, fun ρ1 H1 h1 ds vs a rs q1 => ⟨ρ1, h1, ds, a.rp, rs, okS_ans q1 fun z h2 q2 ρ2 H2 v b r => k _ _ _ _ _ (a.trans b) r q2⟩, hx⟩
theorem me_ty {f : SN} {id : String} {x : Str} {p pos : Pos} {e : Expr} {es : List Expr} {ws : AW} (hc : CallR X (.type id) (rN T f)) (hg : Gl X x) (hm : X.mg x = none) (hv : bootBuiltins x = some (.type id)) (hn : x ≠ "__name__") (hdb : (x == ("__debug__" : Str)) = false)
    (ha : PA X (e :: es) (liftA T W ws)) (hns : ∀ y ∈ e :: es, noStar y = true) : PE X (.Call (.Name x p) (e :: es) [] pos) (liftE T W fun Q Qx τ h => ws (fun ds h' => okS (f h' ds) Q) Qx τ h) :=
  PE.imp (pe_callTy hc hg hm hv ha hn hdb (starEach_cons' (hns e List.mem_cons_self)) (starEach_any fun y hy => hns y (List.mem_cons_of_mem _ hy))) fun σ H Q ⟨ρ, τ, h, Qa, Qx, R, S, q, k, hx⟩ =>
    ⟨ρ, τ, h, _, Qx, R, S, q, fun ρ1 H1 h1 ds vs a rs q1 => ⟨ρ1, h1, ds, a.rp, rs, okS_ans q1 fun z h2 q2 ρ2 H2 v b r => k _ _ _ _ _ (a.trans b) r q2⟩, hx⟩

/-! ### isinstance -/
/-- its second argument, a class -/
def rIs (cv : Value) (r : V → Hp → VK → Prop) : List V → Hp → VK → Prop := fun xs H Q => ∃ x t, xs = [x, t] ∧ (∀ u, RelV t u → u = cv) ∧ r x H Q
theorem me_is {cv : Value} {v : V} {f : Hh → D → PQ → Prop} {y : Str} {p p2 pos : Pos} {a : Expr} {wa : EW}
    (hc : ∀ (pins : List (Addr × Obj)) (s : Shared) (σ : L2.St) (H : Hp) (ρ : List Addr) (h : Hh) (d : D) (x : V) (u : Value) (Qa : PQ) (Q : VK), Inv X pins σ H s → Rp T ρ h H → RelD T ρ H d x → RelV x u → f h d Qa → LQ T ρ H Qa Q → wpAny (model X.prog X.w) X.A (call (.builtin "isinstance") [u, cv]) (EP X pins σ Q) X.xe s)
    (hg : Gl X "isinstance") (hm : X.mg "isinstance" = none) (ha : PE X a (liftE T W wa)) (hy : PE X (.Name y p2) (tC v)) (hv : ∀ u, RelV v u → u = cv) (hns : noStar a = true) :
    PE X (.Call (.Name "isinstance" p) [a, .Name y p2] [] pos) (liftE T W fun Q Qx τ h => wa (fun x h1 => f h1 x Q) Qx τ h) := by
  have cr : CallR X (.builtin "isinstance") (rIs cv fun x H Q => ∃ ρ h d Qa, Rp T ρ h H ∧ RelD T ρ H d x ∧ f h d Qa ∧ LQ T ρ H Qa Q) := by
    intro pins s σ H xs us Q I r q
    obtain ⟨x, t, rfl, ht, ρ, h, d, Qa, R, rd, q, k⟩ := q
    obtain ⟨u, u', rfl, r1, r2⟩ := vals2 r
    obtain rfl := ht u' r2
    exact hc pins s σ H ρ h d x u Qa Q I R rd r1 q k
  refine PE.imp (pe_callB cr hg hm rfl (pa_cons ha (pa_cons hy pa_nil) (starEach_cons' hns)) (by decide) (by decide) (starEach_cons' hns) rfl) fun σ H Q ⟨ρ, τ, h, Qa, Qx, R, S, q, k, hx⟩ => ?_
  exact lift1 R S hx q fun ρ1 H1 h1 d x a rd q1 => ⟨x, v, rfl, hv, ρ1, h1, d, Qa, a.rp, rd, q1, fun ρ2 H2 h2 d v b r q2 => k _ _ _ _ _ (a.trans b) r q2⟩
theorem is_ty (t : Ty) : ∀ (pins : List (Addr × Obj)) (s : Shared) (σ : L2.St) (H : Hp) (ρ : List Addr) (h : Hh) (d : D) (x : V) (u : Value) (Qa : PQ) (Q : VK), Inv X pins σ H s → Rp T ρ h H → RelD T ρ H d x → RelV x u → okS (isiS t h d) Qa → LQ T ρ H Qa Q → wpAny (model X.prog X.w) X.A (call (.builtin "isinstance") [u, .type t.name]) (EP X pins σ Q) X.xe s :=
  fun pins s σ H ρ h d x u Qa Q I R rd ru q k => isi_run I R rd ru (okS_ans q fun z h2 q2 ρ2 H2 v b r => k _ _ _ _ _ b r q2)
/-- an exception's object, looked at -/
theorem exn_inst {pins : List (Addr × Obj)} {s : Shared} {C : Addr} {a : Addr} (I : Inv X pins σ H s) (ha : H a = some (ExH C none a)) : ∃ oe, PySem.W.InstAt s.heap a oe C none := by
  obtain ⟨⟨oe, vs, he, hz, hd⟩, _⟩ := I.hok a _ ha
  exact ⟨oe, he, hz.1, by unfold PySem.W.notCls; rw [hd], by rw [hz.2]; trivial⟩
theorem exf_inst {pins : List (Addr × Obj)} {s : Shared} {C : Addr} {a dx : Addr} {fs : List (Str × V)} (I : Inv X pins σ H s) (ha : H a = some (ExH C (some dx) a)) (hd : H dx = some (.xd fs)) :
    ∃ (oe od : Obj) (mA : Str → Option Value), PySem.W.InstAt s.heap a oe C (some od) ∧ (∀ n, PySem.W.lookIn n od = some (mA n)) ∧ ∀ f, RelO (fs.lookup f) (mA f) := by
  obtain ⟨⟨oe, vs, he, hz, hdd⟩, _⟩ := I.hok a _ ha
  obtain ⟨mA, hns, hr⟩ := (show ObjOk X.prog X.w H s.heap dx (.xd fs) from I.hok dx _ hd)
  obtain ⟨od, ho, hl⟩ := lookIn_ns hns
  exact ⟨oe, od, mA, ⟨he, hz.1, by unfold PySem.W.notCls; rw [hdd], by rw [hz.2]; exact ho⟩, hl, hr⟩
theorem any_cls {K : PySem.W.Frag} {D : Addr} (C : ExcC K D) : (PySem.W.clsIn K D).isSome = true := by
  obtain ⟨cd, hc, _⟩ := PySem.W.any_some C.hd
  rw [hc]; rfl
def isxP (Z : Zi) (c : Nat) : Hh → D → PQ → Prop := fun h x Q => match x with
      | .exn e _ => e < Z.nx ∧ Q (.bl (Z.le e c)) h
      | .non => Q (.bl false) h
      | _ => False
theorem is_exc (hK : X.K = T.K) {c : Nat} {cv : Value} (hN : PySem.W.kitOne T.K (.type "NoneType") cv = some false) (hE : ∀ e, e < Z.nx → PySem.W.kitOne T.K (.ref (T.xa e)) cv = some (Z.le e c)) (hO : ∀ e, e < Z.nx → ExcC T.K (T.xa e)) :
    ∀ (pins : List (Addr × Obj)) (s : Shared) (σ : L2.St) (H : Hp) (ρ : List Addr) (h : Hh) (d : D) (x : V) (u : Value) (Qa : PQ) (Q : VK), Inv X pins σ H s → Rp T ρ h H → RelD T ρ H d x → RelV x u → isxP Z c h d Qa → LQ T ρ H Qa Q → wpAny (model X.prog X.w) X.A (call (.builtin "isinstance") [u, cv]) (EP X pins σ Q) X.xe s := by
  intro pins s σ H ρ h d x u Qa Q I R rd ru q k
  unfold isxP at q
  split at q
  · next e fs =>
    obtain ⟨he, q⟩ := q
    have C := hO e he
    have fin : ∀ tk, EP X pins σ Q (.bool (Z.le e c)) { s with toks := tk } := fun tk => ⟨.bl _, H, I.tok tk, rfl, k _ _ _ _ _ (.refl R) (.bl _) q⟩
    cases rd with
    | exn ha =>
      obtain rfl : u = Value.ref _ := ru
      obtain ⟨oe, J⟩ := exn_inst I ha
      exact PySem.W.kia_one (PySem.W.exc_kit C (PySem.W.findObj_dataN (any_cls C) C.ha C.hn C.ht)) (by rw [← hK]; exact I.kIn) J (hE e he) (fun z => nomatch z) fin
    | exf ha hd _ _ =>
      obtain rfl : u = Value.ref _ := ru
      obtain ⟨oe, od, mA, J, _, _⟩ := exf_inst I ha hd
      exact PySem.W.kia_one (PySem.W.exc_kit C (PySem.W.findObj_data (any_cls C) C.ha C.hn C.ht)) (by rw [← hK]; exact I.kIn) J (hE e he) (fun z => nomatch z) fin
  · cases relN rd
    exact isinst_ok I ru (TyOf.non) (by rw [hK]; exact hN) fun tk => ⟨.bl false, H, I.tok tk, rfl, k _ _ _ _ _ (.refl R) (.bl _) q⟩
  · exact q.elim

/-! ### a field of an exception -/
def fldP (Z : Zi) (f : Str) : Hh → D → PQ → Prop := fun h x Q => match x with
      | .exn e fs => e < Z.nx ∧ (match Z.fld e f with
        | some i => (match fs[i]? with
          | some y => Q y h
          | none => False)
        | none => False)
      | _ => False
theorem zip_lookup : ∀ {xf : List Str} {vs : List V} {i : Nat} {f : Str} {v : V}, xf.Nodup → xf[i]? = some f → vs[i]? = some v → (xf.zip vs).lookup f = some v
  | [], _, _, _, _, _, h, _ => by simp at h
  | _ :: _, [], _, _, _, _, _, h => by simp at h
  | g :: xf, w :: vs, 0, f, v, _, h1, h2 => by
    simp at h1 h2
    subst h1; subst h2
    simp
  | g :: xf, w :: vs, i + 1, f, v, hn, h1, h2 => by
    have hne : (f == g) = false := by
      rw [beq_eq_false_iff_ne]
      intro e
      subst e
      have : f ∈ xf := List.mem_of_getElem? (by simpa using h1)
      exact (List.nodup_cons.mp hn).1 this
    rw [List.zip_cons_cons, List.lookup_cons, hne]
    exact zip_lookup (List.nodup_cons.mp hn).2 (by simpa using h1) (by simpa using h2)
theorem me_fld (hK : X.K = T.K) {f : Str} {a : Expr} {pos : Pos} {wa : EW} (hO : ∀ e, e < Z.nx → ExcC T.K (T.xa e) ∧ ("__class__" : Str) ∉ T.xf e ∧ (T.xf e).Nodup ∧ ∀ f i, Z.fld e f = some i → (T.xf e)[i]? = some f ∧ PySem.W.findIn T.K (.ref (T.xa e)) f = some none)
    (ha : PE X a (liftE T W wa)) (hb : attributeBase a f X.env (eval a X.env) = eval a X.env) : PE X (.Attribute a f pos) (liftE T W fun Q Qx τ h => wa (fun x h1 => fldP Z f h1 x Q) Qx τ h) := by
  refine ⟨fun pins s σ H Q I hw => ?_⟩
  obtain ⟨ρ, τ, h, Qa, Qx, R, S, q, k, hx⟩ := hw
  refine attr_of hb (thn (ha.run pins s σ H (fun v H' => ∃ ρ' h' d, Rp T ρ' h' H' ∧ RelD T ρ' H' d v ∧ Aft T ρ H ρ' h' H' ∧ fldP Z f h' d Qa) I (lift1 R S hx q fun ρ1 H1 h1 d v a rd q1 => ⟨ρ1, h1, d, a.rp, rd, a, q1⟩)) fun u s1 ⟨v, H1, I1, rv, ρ1, h1, d, R1, rd, a, q1⟩ => ?_)
  unfold fldP at q1
  split at q1
  · next e fs =>
    obtain ⟨he, q1⟩ := q1
    obtain ⟨Ce, _, nd, hf⟩ := hO e he
    split at q1
    · next i ei =>
      obtain ⟨ef, hno⟩ := hf f i ei
      split at q1
      · next y ey =>
        cases rd with
        | exn _ => simp at ey
        | @exf _ p dx _ vs hp hd hl rs =>
          obtain rfl : u = Value.ref p := rv
          obtain ⟨oe, od, mA, J, hlk, hr⟩ := exf_inst I1 hp hd
          obtain ⟨yv, e1, ry⟩ := rs.get ey
          have e2 := zip_lookup nd ef e1
          obtain ⟨u2, hu, ru⟩ := RelO.some_of (v := yv) (o := mA f) (by rw [← e2]; exact hr f)
          have kin : T.K.In s1.heap := by rw [← hK]; exact I1.kIn
          exact HandSPX.exc_get kin J Ce.hg Ce.hk Ce.hs (PySem.W.findObj_own Ce.hd hno rfl (by rw [hlk, hu])) (handed_of ru) ⟨yv, H1, I1.tok _, ru, k _ _ _ _ _ a ry q1⟩
      · exact q1.elim
    · exact q1.elim
  · exact q1.elim
end
end Mi

set_option Elab.async false
set_option linter.all false
set_option maxRecDepth 100000
set_option maxHeartbeats 1000000
/-! Mi: methods; exceptions made and raised; dict displays. -/
namespace Mi
open PySem PySem.Spec PyProof.Rows L2
section
variable {X : Cx} {T : Tab} {W : WX} {ρ ρ' : List Addr} {H H' : Hp} {h h' : Hh} {σ : L2.St} {τ : Sl} {Qx : PX} {Z : Zi} {C : Cal} {G : Gi}

/-! ### methods -/
theorem mt_some {m : Mt} {ty : Ty} (e : mtT m ty = true) : ∃ h xs z, mtS m ty h xs = some z := by
  cases m <;> cases ty <;> first | cases e | skip
  · exact ⟨[.lst []], [.ref 0, .non], _, rfl⟩
  · exact ⟨[.lst []], [.ref 0, .tup []], _, rfl⟩
  · exact ⟨[.lst [.non]], [.ref 0], _, rfl⟩
  · exact ⟨[.lst []], [.ref 0, .non], _, rfl⟩
  · exact ⟨[.lst [.int 0]], [.ref 0, .int 0], _, rfl⟩
  · exact ⟨[.dct false []], [.ref 0, .int 0], _, rfl⟩
  · exact ⟨[.dct false []], [.ref 0, .int 0, .non], _, rfl⟩
  · exact ⟨[.lst []], [.str [], .ref 0], _, rfl⟩
theorem rec_is (hK : X.K = T.K) {pins : List (Addr × Obj)} {s : Shared} (I : Inv X pins σ H s) (R : Rp T ρ h H) {d : D} {v : V} {u : Value} {ty : Ty} (rd : RelD T ρ H d v) (ru : RelV v u) (e : recT h d = some ty) :
    s.TypeIs u ty.name ∧ ∀ a, u = .ref a → ∃ ob, s.heap.get? a = some ob ∧ ob.dict = none := by
  cases d with
  | str l =>
    cases e
    obtain ⟨x, rfl, _⟩ := relSt rd
    exact tyV_is (T := "str") I ru rfl
  | ref i =>
    unfold recT at e
    cases rd with
    | @ref _ p hp =>
      obtain rfl : u = Value.ref p := ru
      dsimp only at e
      split at e
      · next ys ei =>
        cases e
        obtain ⟨q, vs, e1, _, hv, _⟩ := R.lst (.ref hp) ei
        cases e1
        exact tyV_is (x := .ref p) (T := "list") I rfl (.inl ⟨rfl, vs, .of hv⟩)
      · next ys ei =>
        cases e
        cases R.ok i p _ hp ei with
        | fro hv r => exact tyV_is (x := .ref p) (T := "list") I rfl (.inl ⟨rfl, _, .inl (.inr ⟨_, hv⟩)⟩)
      · next lk kvs ei =>
        cases e
        cases R.ok i p _ hp ei with
        | dct hv r => exact tyV_is (x := .ref p) (T := "dict") I rfl (.inr (.inr (.inl ⟨rfl, .inl ⟨_, hv⟩⟩)))
        | dcl hv r =>
          obtain ⟨_, ho, ex, _⟩ := I.frzK hv
          refine ⟨⟨_, ho, ex.1⟩, fun a e2 => ?_⟩
          cases e2
          exact ⟨_, ho, ex.2.1⟩
      · cases e
  | _ => cases e
theorem me_mt (hK : X.K = T.K) (hu : X.A.units + 200 < cLine) {m : Mt} {o : Expr} {es : List Expr} {apos cpos : Pos} {wo : EW} {ws : AW} (ho : PE X o (liftE T W wo)) (ha : PA X es (liftA T W ws)) (hbase : attributeBase o (Str.ofString m.name) X.env (eval o X.env) = eval o X.env)
    (hline : (apos.endLine == cpos.line) = true) (hlen : es.length < 30) (hns : ∀ e ∈ es, noStar e = true) (hnil : es = [] → ∀ Q Qx τ h, ws Q Qx τ h → Q [] h) :
    PE X (.Call (.Attribute o (Str.ofString m.name) apos) es [] cpos) (liftE T W fun Q Qx τ h => wo (fun x h1 => match recT h1 x with
      | some ty => mtT m ty = true ∧ ws (fun ds h2 => okS (mtS m ty h2 (x :: ds)) Q) Qx τ h1
      | none => False) Qx τ h) := by
  refine ⟨fun pins s σ H Q I hw => ?_⟩
  obtain ⟨ρ, τ, h, Qa, Qx, R, S, q, k, hx⟩ := hw
  have z := lift1 (K := fun v H' => ∃ ρ' h' d ty, Rp T ρ' h' H' ∧ RelD T ρ' H' d v ∧ recT h' d = some ty ∧ mtT m ty = true ∧ (es = [] → Ans T ρ' H' (mtS m ty h' [d]) Q) ∧
      liftA T W ws σ H' fun vs H2 => ∃ ρ2 h2 ds, Rp T ρ2 h2 H2 ∧ RelD T ρ2 H2 d v ∧ RelDs T ρ2 H2 ds vs ∧ Ans T ρ2 H2 (mtS m ty h2 (d :: ds)) Q) R S hx q fun ρ1 H1 h1 d v a rd q1 => by
    try dsimp only at q1
    split at q1
    · next ty ety =>
      obtain ⟨hm, q1⟩ := q1
      refine ⟨ρ1, h1, d, ty, a.rp, rd, ety, hm, fun en => ?_, ρ1, τ, h1, _, Qx, a.rp, a.s S, q1, fun ρ2 H2 h2 ds vs b rs q2 => ⟨ρ2, h2, ds, b.rp, b.d rd, rs, okS_ans q2 fun z h3 q3 ρ3 H3 v3 c r => k _ _ _ _ _ ((a.trans b).trans c) r q3⟩, hx.aft a⟩
      exact okS_ans (hnil en _ _ _ _ q1) fun z h3 q3 ρ3 H3 v3 c r => k _ _ _ _ _ (a.trans c) r q3
    · exact q1.elim
  have hK' := hK
  cases es with
  | nil =>
    refine wpAny_Call_method0_late hbase hline (thn (ho.run pins s σ H _ I z) fun u s1 ⟨v, H1, I1, ru, ρ1, h1, d, ty, R1, rd, ety, hm, hnl, q1⟩ => ?_)
    obtain ⟨t1, t2⟩ := rec_is hK I1 R1 rd ru ety
    obtain ⟨h0, xs0, z0, e0⟩ := mt_some hm
    obtain ⟨id, pa, slot, hty, run⟩ := (mt_ok (X := X) (T := T) hK hu m ty).resolve_left fun z => by rw [z] at e0; cases e0
    exact ⟨ty.name, id, pa, slot, hty, t1, t2, Calls.callWith_builtin rfl (PySem.evalArgs_none (run pins s1 σ H1 ρ1 h1 d [] v [] u [] Q I1 R1 rd .nil ru .nil (hnl rfl)))⟩
  | cons e es =>
    have hfew : ((backTo cpos (starEach (e :: es) X.env)).all (fun x => !x.1) && (backToKw cpos (keywordEach [] X.env)).all (fun x => x.1.isSome)
      && decide ((e :: es).length + ([] : List Keyword).length + (if ([] : List Keyword).isEmpty then 0 else 1) < 30)) = true := by
      rw [starEach_all hns]
      show (true && true && decide ((e :: es).length + 0 + 0 < 30)) = true
      simpa using hlen
    refine wpAny_Call_method_late hbase hfew hline rfl (thn (ho.run pins s σ H _ I z) fun u s1 ⟨v, H1, I1, ru, ρ1, h1, d, ty, R1, rd, ety, hm, _, q1⟩ => ?_)
    obtain ⟨t1, t2⟩ := rec_is hK I1 R1 rd ru ety
    obtain ⟨h0, xs0, z0, e0⟩ := mt_some hm
    obtain ⟨id, pa, slot, hty, run⟩ := (mt_ok (X := X) (T := T) hK hu m ty).resolve_left fun z => by rw [z] at e0; cases e0
    refine ⟨ty.name, id, pa, slot, hty, t1, t2, ?_⟩
    have hA := ha.run cpos pins s1 σ H1 _ I1 q1
    have hs := starEach_cons' (es := es) (env := X.env) (hns e List.mem_cons_self)
    rw [hs] at hA ⊢
    refine Calls.callWith_builtin (by show (false || (backTo cpos (starEach es X.env)).any (·.1)) = false; rw [starEach_any fun y hy => hns y (List.mem_cons_of_mem _ hy)] <;> rfl) (Calls.evalArgs_plain ?_)
    exact thn hA fun us s2 ⟨vs, H2, I2, r2, ρ2, h2, ds, R2, rd2, rs2, q2⟩ => run pins s2 σ H2 ρ2 h2 d ds v vs u us Q I2 R2 rd2 rs2 ru r2 q2

/-! ### exceptions made -/
def liftM (T : Tab) (W : WX) (c : Nat) (w : AW) : L2.St → Hp → XK → Prop := fun σ H Q => ∃ ρ τ h Qa Qx, Rp T ρ h H ∧ RelS T ρ H τ σ ∧ w Qa Qx τ h ∧ (∀ ρ' H' h' fs cls dx, Aft T ρ H ρ' h' H' → RelX T ρ' H' c fs cls dx → Qa fs h' → Q cls dx H') ∧ LX T ρ H Qx W σ
/-- class c's exception of these arguments -/
def wMk (Z : Zi) (c : Nat) (ws : AW) : AW := fun Q Qx τ h => ws (fun ds h1 => match Z.mkf c ds with
      | some fs => Q fs h1
      | none => False) Qx τ h
theorem mm_plain {bmB : List Value} {B newId initId : String} {c : Nat} {x : Str} {p pos : Pos} {es : List Expr} {ws : AW} (F : ExcBaseFacts B newId initId bmB) (q : PySem.W.excIn X.K (T.xa c) bmB newId = true) (hf : ∀ ds fs, Z.mkf c ds = some fs → fs = [] ∧ ds.length ≤ 1000)
    (gC : X.mg x = some (.ref (T.xa c))) (kC : PySem.W.keepIn X.K (.ref (T.xa c)) = true) (r : Raises X (.ref (T.xa c))) (hg : Gl X x) (ha : PA X es (liftA T W ws)) (hdb : (x == ("__debug__" : Str)) = false) (hns : ∀ e ∈ es, noStar e = true) (hnil : es = [] → ∀ Q Qx τ h, ws Q Qx τ h → Q [] h) :
    PMk X (.Call (.Name x p) es [] pos) (liftM T W c (wMk Z c ws)) := by
  intro pins s σ H Q I hw
  obtain ⟨ρ, τ, h, Qa, Qx, R, S, hq, k, hx⟩ := hw
  refine wpAny_Call_Name_kw (ld_glob I hg gC ?_ hdb)
  have call : ∀ (us : List Value) (H1 : Hp) (s1 : Shared) (ρ1 : List Addr) (h1 : Hh) (ds : List D) (vs : List V), Inv X pins σ H1 s1 → Aft T ρ H ρ1 h1 H1 → RelDs T ρ1 H1 ds vs → Vals vs us → (match Z.mkf c ds with
      | some fs => Qa fs h1
      | none => False) → wpAny (model X.prog X.w) X.A (call (.ref (T.xa c)) us) (MkP X pins σ Q) X.xe s1 := fun us H1 s1 ρ1 h1 ds vs I1 a rs rv q1 => by
    split at q1
    · next fs ef =>
      obtain ⟨rfl, hz⟩ := hf ds fs ef
      obtain ⟨bm, N, nm, qn, bs, hdct, sn, sub, ab, col, dd, k0, k1, k2, k3, k5, mN, hC, hN, hni, T'⟩ := exc_obj I1.kIn q
      refine wpAny_call_exc_subT F T' hC hN hni (fun h' e hm => ?_) (by rw [← rv.length, ← rs.length, sizeLine_eq]; omega)
      exact mk_of I1 hm r (k _ _ _ _ _ _ a ⟨rfl, .inl ⟨rfl, rfl⟩⟩ q1) (I1.hok.gone hm.new)
    · exact q1.elim
  cases es with
  | nil => exact PySem.W.callWith_K0 I.kIn kC (call [] H s ρ h [] [] I (.refl R) .nil .nil (hnil rfl _ _ _ _ hq))
  | cons e es =>
    refine PySem.W.callWith_K (h₀ := X.base) I.ok.mod.kin kC (thn (ha.run pos pins s σ H (fun vs H1 => ∃ ρ1 h1 ds, Aft T ρ H ρ1 h1 H1 ∧ RelDs T ρ1 H1 ds vs ∧ (match Z.mkf c ds with
      | some fs => Qa fs h1
      | none => False)) I ⟨ρ, τ, h, _, Qx, R, S, hq, fun ρ1 H1 h1 ds vs a rs q1 => ⟨ρ1, h1, ds, a, rs, q1⟩, hx⟩) fun us s1 ⟨vs, H1, I1, rv, ρ1, h1, ds, a, rs, q1⟩ => ⟨I1.kIn, call us H1 s1 ρ1 h1 ds vs I1 a rs rv q1⟩) (starEach_cons' (hns e List.mem_cons_self)) (starEach_any fun y hy => hns y (List.mem_cons_of_mem _ hy))
theorem PMk.imp {e : Expr} {t t' : L2.St → Hp → XK → Prop} (p : PMk X e t) (i : ∀ σ H Q, t' σ H Q → t σ H Q) : PMk X e t' := fun pins s σ H Q I w => p pins s σ H Q I (i σ H Q w)
theorem mm_own {c : Nat} {x : Str} {p pos : Pos} {es : List Expr} {ws : AW} {fI : Addr} {fd : FuncData} {ps : List Str} {k : Nat} (O : OexC X.K (T.xa c)) (iC : PySem.W.findIn X.K (.ref (T.xa c)) "__init__" = some (some (.ref fI))) (tI : PySem.W.typeIn X.K (.ref fI) = some (.type "function"))
    (F1 : FnOk X.prog X.w X.K X.mg X.base (L2.CX X.prog X.w) k fI fd ps (SpI (T.xa c) (T.xf c))) (hr : Room (k + 1) X.A) (hb : Binds X.K fd ps []) (hf : ∀ ds fs, Z.mkf c ds = some fs → fs = ds.reverse ∧ ds.length = (T.xf c).length ∧ 0 < ds.length ∧ ds.length ≤ 1000)
    (hg : Gl X x) (hm : X.mg x = some (.ref (T.xa c))) (ha : PA X es (liftA T W ws)) (hdb : (x == ("__debug__" : Str)) = false) (hns : ∀ e ∈ es, noStar e = true) (hnil : es = [] → ∀ Q Qx τ h, ws Q Qx τ h → Q [] h) :
    PMk X (.Call (.Name x p) es [] pos) (liftM T W c (wMk Z c ws)) := by
  cases es with
  | nil =>
    intro pins s σ H Q I hw
    obtain ⟨ρ, τ, h, Qa, Qx, R, S, hq, k, hx⟩ := hw
    have q1 := hnil rfl _ _ _ _ hq
    split at q1
    · next fs ef => exact absurd (hf _ _ ef).2.2.1 (by simp)
    · exact q1.elim
  | cons e es =>
    refine PMk.imp (pmk_oex (CX := L2.CX X.prog X.w) O iC tI F1 hr hb .nil passL hg hm ha hdb (starEach_cons' (hns e List.mem_cons_self)) (starEach_any fun y hy => hns y (List.mem_cons_of_mem _ hy))) fun σ H Q ⟨ρ, τ, h, Qa, Qx, R, S, q, kk, hx⟩ => ?_
    refine ⟨ρ, τ, h, _, Qx, R, S, q, fun ρ1 H1 h1 ds vs a rs q1 => ?_, hx⟩
    split at q1
    · next fs ef =>
      obtain ⟨rfl, hl, _, hz⟩ := hf ds fs ef
      refine ⟨by rw [← rs.length]; exact hz, fun p hp => ⟨p, vs, by rw [List.append_nil], by rw [← rs.length]; exact hl, upd_same, fun H2 dx e1 e2 e3 e4 e5 => ⟨rfl, dx, _, e1, e2, ?_, ?_⟩⟩⟩
      · rw [upd_ne e4] at e3; exact e3
      · have e3' : H1 dx = none := by rw [upd_ne e4] at e3; exact e3
        have eH : upd (del H2 p) dx (.xd ((T.xf c).zip vs.reverse)) = upd H1 dx (.xd ((T.xf c).zip vs.reverse)) := by
          funext b
          by_cases hb : b = dx
          · subst hb; rw [upd_same, upd_same]
          · rw [upd_ne hb, upd_ne hb]
            by_cases hp' : b = p
            · subst hp'; rw [del_same, hp]
            · rw [del_ne hp', e5 b hp' hb, upd_ne hp']
        rw [eH]
        have aa : Aft T ρ1 H1 ρ1 h1 (upd H1 dx (.xd ((T.xf c).zip vs.reverse))) := .tup a.rp e3'
        exact kk _ _ _ _ _ _ (a.trans aa) ⟨rfl, .inr ⟨dx, _, rfl, upd_same, by rw [List.length_reverse, ← rs.length]; exact hl.symm, (aa.ds rs).reverse⟩⟩ q1
    · exact q1.elim
/-- an exception as a value -/
theorem pe_exn {e : Expr} {t : L2.St → Hp → XK → Prop} (p : PMk X e t) : PE X e fun σ H Q => t σ H fun cls d H' => ∃ C, cls = .ref C ∧ ∀ a, H' a = none → Q (.ref a) (upd H' a (ExH C d a)) := by
  refine ⟨fun pins s σ H Q I hw => ?_⟩
  refine wpAny_mono (p pins s σ H _ I hw) (fun u s1 hu => ?_) fun _ _ x => x
  obtain ⟨a, oe, vs, sI, H', cls, d, rfl, J, kk, hne, ha, hz, hd, h1, na, os, ag, r, C, rfl, q⟩ := hu
  have new : ObjOk X.prog X.w (upd H' a (ExH C d a)) s1.heap a (ExH C d a) := ⟨⟨oe, vs, ha, hz, hd⟩, ⟨oe, ha⟩, fun _ _ ⟨o, v, q, r⟩ k => ⟨o, v, k o q, r⟩⟩
  have J1 := J.laidN (t' := s1.toks) (h' := s1.heap) kk hne na new
  exact ⟨.ref a, _, ⟨J1.ok, os.trans J1.os, ag, J1.base, J1.loc, J1.cell, J1.free, J1.freeC, J1.pin, J1.hok, J1.len⟩, rfl, q a na⟩
theorem me_mk {c : Nat} {e : Expr} {ws : AW} (p : PMk X e (liftM T W c (wMk Z c ws))) : PE X e (liftE T W fun Q Qx τ h => ws (fun ds h1 => match Z.mkf c ds with
      | some fs => Q (.exn c fs) h1
      | none => False) Qx τ h) :=
  PE.imp (pe_exn p) fun σ H Q ⟨ρ, τ, h, Qa, Qx, R, S, q, k, hx⟩ => ⟨ρ, τ, h, fun fs h1 => Qa (.exn c fs) h1, Qx, R, S, q, fun ρ1 H1 h1 fs cls dx a rx q1 => ⟨T.xa c, rx.1, fun b hb => by
    have aa : Aft T ρ1 H1 ρ1 h1 (upd H1 b (ExH (T.xa c) dx b)) := .tup a.rp hb
    refine k _ _ _ _ _ (a.trans aa) ?_ q1
    rcases rx.2 with ⟨rfl, rfl⟩ | ⟨d, vs, rfl, hd, hl, rs⟩
    · exact .exn upd_same
    · exact .exf upd_same (by rw [upd_ne (fun z => by rw [z, hb] at hd; cases hd)]; exact hd) hl (aa.ds rs)⟩, hx⟩

/-! ### dicts written -/
theorem putKd_len (l : List (Ky × D)) (k : Ky) (d : D) : (putKd l k d).length ≤ l.length + 1 := by
  have hr : ∀ l : List (Ky × D), (repKd l k d).length = l.length := fun l => by
    induction l with
    | nil => rfl
    | cons p l ih => obtain ⟨j, e⟩ := p; unfold repKd; rw [List.length_cons, ih, List.length_cons]
  unfold putKd
  split
  · rw [hr]; omega
  · rw [List.length_append]; simp
theorem KVs.merge : ∀ {l : List (Ky × D)} {m : List (Key × V)} {a : List (Ky × D)} {b : List (Key × V)}, KVs T ρ H l m → KVs T ρ H a b → KVs T ρ H (mergeKd a l) (mergeK b m)
  | _, _, _, _, .nil, r => r
  | _, _, _, _, .cons hk hd t, r => by
    have z := KVs.merge t (r.put hk hd)
    exact z
/-- pairs, evaluated from the left -/
inductive RelPs (T : Tab) (ρ : List Addr) (H : Hp) : List (D × D) → List (V × V) → Prop
  | nil : RelPs T ρ H [] []
  | cons {a b : D} {l : List (D × D)} {x y : V} {m : List (V × V)} (r : RelD T ρ H a x) (s : RelD T ρ H b y) (t : RelPs T ρ H l m) : RelPs T ρ H ((a, b) :: l) ((x, y) :: m)
theorem RelPs.keys : ∀ {l : List (D × D)} {m : List (V × V)} {kvs : List (Ky × D)}, RelPs T ρ H l m → kysOf l = some kvs → ∃ ks : List (Key × V), m = ks.map (fun kv => (kV kv.1, kv.2)) ∧ KVs T ρ H kvs ks
  | _, _, kvs, .nil, e => by cases e; exact ⟨[], rfl, .nil⟩
  | _, _, kvs, .cons (a := a) (b := b) (l := l) r s t, e => by
    unfold kysOf at e
    split at e
    · next k l' ek el =>
      cases e
      obtain ⟨q, kq, rfl⟩ := KyR.of r ek
      obtain ⟨ks, rfl, rk⟩ := RelPs.keys t el
      exact ⟨(q, _) :: ks, rfl, .cons kq s rk⟩
    · cases e
abbrev PW2 := (List (D × D) → Hh → Prop) → PX → Sl → Hh → Prop
def liftP (T : Tab) (W : WX) (w : PW2) : L2.St → Hp → (List (V × V) → Hp → Prop) → Prop := fun σ H Q => ∃ ρ τ h Qa Qx, Rp T ρ h H ∧ RelS T ρ H τ σ ∧ w Qa Qx τ h ∧ (∀ ρ' H' h' l m, Aft T ρ H ρ' h' H' → RelPs T ρ' H' l m → Qa l h' → Q m H') ∧ LX T ρ H Qx W σ
structure MPs (X : Cx) (T : Tab) (W : WX) (pos : Pos) (keys : List (Option Expr)) (values : List Expr) (w : PW2) : Prop where
  ps : ∃ trs, PPs X pos keys values trs ∧ ∀ σ H Q, liftP T W w σ H Q → tPairs trs σ H Q
  all : keys.all (·.isSome) = true
  len : keys.length = values.length
theorem mp_nil {pos : Pos} : MPs X T W pos [] [] fun Q _ _ h => Q [] h := ⟨⟨[], pps_nil, fun σ H Q ⟨ρ, τ, h, Qa, Qx, R, S, q, k, hx⟩ => k _ _ _ _ _ (.refl R) .nil q⟩, rfl, rfl⟩
theorem mp_cons {pos : Pos} {a b : Expr} {ks : List (Option Expr)} {vs : List Expr} {wa wb : EW} {w : PW2} (ha : PE X a (liftE T W wa)) (hb : PE X b (liftE T W wb)) (hr : MPs X T W pos ks vs w) :
    MPs X T W pos (some a :: ks) (b :: vs) fun Q Qx τ h => wa (fun x h1 => wb (fun y h2 => w (fun ds h3 => Q ((x, y) :: ds) h3) Qx τ h2) Qx τ h1) Qx τ h := by
  obtain ⟨⟨trs, p, i⟩, h1, h2⟩ := hr
  refine ⟨⟨_, pps_cons ha hb p, fun σ H Q ⟨ρ, τ, h, Qa, Qx, R, S, q, k, hx⟩ => ?_⟩, by simpa using h1, by simpa using h2⟩
  exact lift2 R S hx q fun ρ1 H1 h1 d e v u a rd re q1 => i _ _ _ ⟨ρ1, τ, h1, _, Qx, a.rp, a.s S, q1, fun ρ2 H2 h2 l m b rl q2 => k _ _ _ _ _ (a.trans b) (.cons (b.d rd) (b.d re) rl) q2, hx.aft a⟩
theorem me_dct {pos : Pos} {keys : List (Option Expr)} {values : List Expr} {w : PW2} (hp : MPs X T W pos keys values w) (hnil : keys = [] → ∀ Q Qx τ h, w Q Qx τ h → Q [] h) (hz : keys.length ≤ 15) :
    PE X (.Dict keys values pos) (liftE T W fun Q Qx τ h => w (fun ds h' => match kysOf ds with
      | some kvs => kvs.length ≤ 15 ∧ h'[h.length]? = some (.dct false []) ∧ Q (.ref h.length) (h'.set h.length (.dct false (mergeKd [] kvs)))
      | none => False) Qx τ (h ++ [.dct false []])) := by
  obtain ⟨⟨trs, p, i⟩, hall, hlen⟩ := hp
  have new : ∀ {ρ h H} {p : Addr}, Rp T ρ h H → H p = none → Aft T ρ H (ρ ++ [p]) (h ++ [.dct false []]) (upd H p (.dK [])) := fun {ρ h H p} R hn => ⟨⟨[p], rfl⟩, Ext.new hn, R.alloc hn (.dct upd_same .nil)⟩
  cases keys with
  | nil =>
    cases values with
    | cons _ _ => cases hlen
    | nil =>
      refine PE.imp pe_dnewK fun σ H Q ⟨ρ, τ, h, Qa, Qx, R, S, q, k, hx⟩ p hn => ?_
      have q1 := hnil rfl _ _ _ _ q
      dsimp only [kysOf] at q1
      obtain ⟨_, _, q1⟩ := q1
      have e : (h ++ [O.dct false []]).set h.length (.dct false (mergeKd [] [])) = h ++ [.dct false []] := by simp [mergeKd]
      rw [e] at q1
      exact k _ _ _ _ _ (new R hn) (ref_new R) q1
  | cons a keys =>
    refine PE.imp (pe_disp p hall hlen (by simp) hz) fun σ H Q ⟨ρ, τ, h, Qa, Qx, R, S, q, k, hx⟩ p hn => ?_
    have a := new R hn
    refine i _ _ _ ⟨_, τ, _, _, Qx, a.rp, a.s S, q, fun ρ2 H2 h2 l m b rl q2 => ?_, hx.aft a⟩
    try dsimp only at q2
    split at q2
    · next kvs ek =>
      obtain ⟨hz2, e2, q2⟩ := q2
      obtain ⟨ks, rfl, rk⟩ := rl.keys ek
      have ei : ρ2[h.length]? = some p := by
        have e0 : (ρ ++ [p])[h.length]? = some p := by rw [← R.len, List.getElem?_append_right (Nat.le_refl _), Nat.sub_self]; rfl
        exact pre_get b.pre e0
      have hv : H2 p = some (.dK []) := by
        cases b.rp.ok _ _ _ ei e2 with
        | dct hv r => cases r; exact hv
      refine ⟨hv, ks, rfl, by rw [← rk.length]; exact hz2, ?_⟩
      exact k _ _ _ _ _ ((a.trans b).trans (Aft.setK b.rp ei hv (KVs.merge rk .nil))) (.ref ei) q2
    · exact q2.elim
end
end Mi

set_option Elab.async false
set_option linter.all false
set_option maxRecDepth 100000
set_option maxHeartbeats 1000000
/-! Mi: targets; what is gone through; a dict that is locked meanwhile. -/
namespace Mi
open PySem PySem.Spec PyProof.Rows L2

/-! ### targets -/
/-- only these slots change -/
def Upd (s : List Nat) (σ σ' : L2.St) : Prop := σ'.length = σ.length ∧ ∀ i, i ∉ s → σ'[i]? = σ[i]?
theorem Upd.refl (s : List Nat) (σ : L2.St) : Upd s σ σ := ⟨rfl, fun _ _ => rfl⟩
theorem Upd.set {s : List Nat} {i : Nat} (h : i ∈ s) (σ : L2.St) (v : Option V) : Upd s σ (σ.set i v) := ⟨List.length_set, fun j hj => List.getElem?_set_ne (fun z => by subst z; exact hj h)⟩
theorem Upd.trans {s : List Nat} {σ σ1 σ2 : L2.St} (a : Upd s σ σ1) (b : Upd s σ1 σ2) : Upd s σ σ2 := ⟨b.1.trans a.1, fun i hi => (b.2 i hi).trans (a.2 i hi)⟩
theorem Upd.mono {s t : List Nat} {σ σ1 : L2.St} (a : Upd s σ σ1) (h : ∀ i ∈ s, i ∈ t) : Upd t σ σ1 := ⟨a.1, fun i hi => a.2 i fun z => hi (h i z)⟩
theorem wipe_at {σ : L2.St} : ∀ {vs : List Nat} {i : Nat}, (wipe σ vs)[i]? = if i ∈ vs ∧ i < σ.length then some none else σ[i]?
  | [], i => by simp [wipe]
  | v :: vs, i => by
    unfold wipe
    by_cases e : v = i
    · subst e
      by_cases hl : v < σ.length
      · rw [List.getElem?_set_self (by rw [wipe_length]; exact hl), if_pos ⟨List.mem_cons_self, hl⟩]
      · rw [if_neg (fun z => hl z.2), List.getElem?_eq_none (by rw [List.length_set, wipe_length]; omega), List.getElem?_eq_none (by omega)]
    · rw [List.getElem?_set_ne e, wipe_at]
      by_cases hm : i ∈ vs
      · simp [hm]
      · have : i ∉ v :: vs := fun z => by rcases List.mem_cons.mp z with z | z; exact e z.symm; exact hm z
        simp [hm, this]
theorem Upd.wipe {s vs : List Nat} {σ σ' : L2.St} (u : Upd s (L2.wipe σ vs) σ') (h : ∀ i ∈ s, i ∈ vs) : L2.wipe σ' vs = L2.wipe σ vs := by
  apply List.ext_getElem?
  intro i
  have hl : σ'.length = σ.length := by rw [u.1, wipe_length]
  rw [wipe_at, wipe_at, hl]
  by_cases hi : i ∈ vs ∧ i < σ.length
  · rw [if_pos hi, if_pos hi]
  · rw [if_neg hi, if_neg hi]
    by_cases hm : i ∈ vs
    · have : ¬ i < σ.length := fun z => hi ⟨hm, z⟩
      rw [List.getElem?_eq_none (by omega), List.getElem?_eq_none (by omega)]
    · rw [u.2 i (fun z => hm (h i z)), wipe_at, if_neg (fun z => hm z.1)]
theorem Upd.wipe2 {s vs : List Nat} {σ σ' : L2.St} (u : Upd s (L2.wipe σ vs) σ') (h : ∀ i ∈ s, i ∈ vs) : L2.wipe σ' vs = L2.wipe σ vs := u.wipe h
mutual
def G.slots : G → List Nat
  | .n i => [i]
  | .t gs => gs.slots
def Gs.slots : Gs → List Nat
  | .nil => []
  | .cons g gs => g.slots ++ gs.slots
end
section
variable {X : Cx} {T : Tab} {W : WX} {ρ ρ' : List Addr} {H H' : Hp} {h h' : Hh} {σ : L2.St} {τ : Sl} {Qx : PX} {Z : Zi} {C : Cal}
def liftG (T : Tab) (s : List Nat) (w : Hh → D → Option (List (Nat × D))) : TG := fun v σ H Q => ∃ ρ τ h d as, Rp T ρ h H ∧ RelS T ρ H τ σ ∧ RelD T ρ H d v ∧ w h d = some as ∧ ∀ σ', RelS T ρ H (setA τ as) σ' → Upd s σ σ' → Q σ' H
def liftGs (T : Tab) (s : List Nat) (w : Hh → List D → Option (List (Nat × D))) : TGs := fun vs σ H Q => ∃ ρ τ h ds as, Rp T ρ h H ∧ RelS T ρ H τ σ ∧ RelDs T ρ H ds vs ∧ w h ds = some as ∧ ∀ σ', RelS T ρ H (setA τ as) σ' → Upd s σ σ' → Q σ' H
theorem PG.imp {e : Expr} {t t' : TG} (p : PG X e t) (i : ∀ v σ H Q, t' v σ H Q → t v σ H Q) : PG X e t' := ⟨fun pins s σ H v u Q I r w => p.run pins s σ H v u Q I r (i v σ H Q w)⟩
theorem PGs.imp {e : List Expr} {t t' : TGs} (p : PGs X e t) (i : ∀ v σ H Q, t' v σ H Q → t v σ H Q) : PGs X e t' := ⟨fun pins s σ H v u Q I r w => p.run pins s σ H v u Q I r (i v σ H Q w)⟩
theorem PG.or {e : Expr} {t t' : TG} (p : PG X e t) (p' : PG X e t') : PG X e fun v σ H Q => t v σ H Q ∨ t' v σ H Q := ⟨fun pins s σ H v u Q I r w => w.elim (p.run pins s σ H v u Q I r) (p'.run pins s σ H v u Q I r)⟩
theorem mg_n {i : Nat} {x : Str} {pos : Pos} (hN : X.N.Nodup) (hi : X.N[i]? = some x) (hx : Loc X.env.scope x) (hf : X.fn x = true ∨ X.env.scope.names.lookup x = some .local) : PG X (.Name x pos) (liftG T (G.n i).slots fun h d => gAs h (.n i) d) :=
  PG.imp (pg_name hN hi hx hf) fun v σ H Q ⟨ρ, τ, h, d, as, R, S, rd, e, k⟩ => by
    unfold gAs at e
    cases e
    exact k _ (S.set i rd) (Upd.set (by simp [G.slots]) _ _)
theorem mgs_nil : PGs X [] (liftGs T Gs.nil.slots fun h ds => gAss h .nil ds) := PGs.imp pgs_nil fun vs σ H Q ⟨ρ, τ, h, ds, as, R, S, rd, e, k⟩ => by
  cases rd with
  | nil => unfold gAss at e; cases e; exact ⟨rfl, k _ S (.refl _ _)⟩
  | cons _ _ => unfold gAss at e; cases e
theorem assignEach_cons' {e : Expr} {es : List Expr} {env : Env} (h : noStar e = true) : assignEach (e :: es) env = (false, assign e env) :: assignEach es env := by
  cases e <;> first | rfl | cases h
theorem setA_app (τ : Sl) (a b : List (Nat × D)) : setA τ (a ++ b) = setA (setA τ a) b := by unfold setA; rw [List.foldl_append]
theorem mgs_cons {e : Expr} {es : List Expr} {g : G} {gs : Gs} (h1 : PG X e (liftG T g.slots fun h d => gAs h g d)) (h2 : PGs X es (liftGs T gs.slots fun h ds => gAss h gs ds)) (hs : noStar e = true) : PGs X (e :: es) (liftGs T (Gs.cons g gs).slots fun h ds => gAss h (.cons g gs) ds) :=
  PGs.imp (pgs_cons h1 h2 (by rw [assignEach_cons' hs]; rfl)) fun vs σ H Q ⟨ρ, τ, h, ds, as, R, S, rd, e, k⟩ => by
    cases rd with
    | nil => unfold gAss at e; cases e
    | @cons d ds v vs rd rds =>
      unfold gAss at e
      dsimp only at e
      split at e
      · next a b ea eb =>
        cases e
        refine ⟨v, vs, rfl, ρ, τ, h, d, a, R, S, rd, ea, fun σ1 S1 u1 => ⟨ρ, _, h, ds, b, R, S1, rds, eb, fun σ2 S2 u2 => k σ2 (by rw [setA_app]; exact S2) ?_⟩⟩
        exact (u1.mono fun i hi => by unfold Gs.slots; exact List.mem_append_left _ hi).trans (u2.mono fun i hi => by unfold Gs.slots; exact List.mem_append_right _ hi)
      · cases e
theorem assignEach_len {es : List Expr} {env : Env} : (assignEach es env).length = es.length := by
  induction es with
  | nil => rfl
  | cons e es ih => cases e <;> (unfold assignEach; rw [List.length_cons, List.length_cons, ih])
theorem assignEach_star {es : List Expr} {env : Env} (h : ∀ e ∈ es, noStar e = true) : (assignEach es env).findIdx? (·.1) = none := by
  induction es with
  | nil => rfl
  | cons e es ih =>
    rw [assignEach_cons' (h e List.mem_cons_self), List.findIdx?_cons]
    rw [ih fun x hx => h x (List.mem_cons_of_mem _ hx)]
    rfl
theorem gAss_len {h : Hh} : ∀ {gs : Gs} {ds : List D} {as : List (Nat × D)} {es : List Expr} {n : Nat}, gAss h gs ds = some as → (∀ ds', ∀ as', gAss h gs ds' = some as' → ds'.length = n) → ds.length = n := fun e k => k _ _ e
def Gs.len : Gs → Nat
  | .nil => 0
  | .cons _ gs => gs.len + 1
theorem gAss_length {h : Hh} : ∀ {gs : Gs} {ds : List D} {as : List (Nat × D)}, gAss h gs ds = some as → ds.length = gs.len
  | .nil, [], _, _ => rfl
  | .nil, _ :: _, _, e => by unfold gAss at e; cases e
  | .cons _ _, [], _, e => by unfold gAss at e; cases e
  | .cons g gs, d :: ds, as, e => by
    unfold gAss at e
    split at e
    · next a b ea eb => rw [List.length_cons, gAss_length eb]; rfl
    · cases e
theorem mg_t (hK : X.K = T.K) {es : List Expr} {n : Nat} {pos : Pos} {gs : Gs} (hc : X.calm = true) (hg : PGs X es (liftGs T gs.slots fun h ds => gAss h gs ds)) (hns : ∀ e ∈ es, noStar e = true) (hl : es.length = gs.len) : PG X (.Tuple es n pos) (liftG T (G.t gs).slots fun h d => gAs h (.t gs) d) := by
  have hn : (assignEach es X.env).length = gs.len := by rw [assignEach_len, hl]
  refine PG.imp (PG.or (pg_tup (k := n) (pos := pos) hc hg hn (assignEach_star hns)) (pg_lst (k := n) (pos := pos) hc hg hn (assignEach_star hns))) fun v σ H Q ⟨ρ, τ, h, d, as, R, S, rd, e, k⟩ => ?_
  unfold gAs at e
  dsimp only at e
  split at e
  · next h1 => cases h1
  · next gs' ds h1 =>
    cases h1
    obtain ⟨p, vs, rfl, hp, rs⟩ := relT rd
    refine .inl ⟨p, vs, rfl, .of hp, by rw [← rs.length]; exact gAss_length e, ρ, τ, h, ds, as, R, S, rs, e, fun σ' S' u => k σ' S' ?_⟩
    exact u.mono fun i hi => by unfold G.slots; exact hi
  · next gs' a h1 =>
    cases h1
    split at e
    · next ds ed =>
      obtain ⟨p, vs, rfl, hq, rs⟩ := R.asL rd ed
      refine .inr ⟨p, vs, rfl, by rw [hK]; exact hq, by rw [← rs.length]; exact gAss_length e, ρ, τ, h, ds, as, R, S, rs, e, fun σ' S' u => k σ' S' ?_⟩
      exact u.mono fun i hi => by unfold G.slots; exact hi
    · cases e
  · cases e

/-! ### what is gone through -/
structure ItR (T : Tab) (J : It) (ρ0 : List Addr) (H0 : Hp) (gd : Hh → Prop) (ds : List D) : Prop where
  go : ∀ i ρ h H, Aft T ρ0 H0 ρ h H → gd h → i < ds.length → J.go i H
  stop : ∀ ρ h H, Aft T ρ0 H0 ρ h H → gd h → J.stop ds.length H
  yld : ∀ i ρ h H x H', Aft T ρ0 H0 ρ h H → gd h → i < ds.length → J.yld i H x H' → ∃ d, ds[i]? = some d ∧ RelD T ρ H' d x ∧ Aft T ρ H ρ h H'
def liftI (T : Tab) (W : WX) (w : KI → PX → Sl → Hh → Prop) : TI := fun σ H R => ∃ ρ τ h k Qx, Rp T ρ h H ∧ RelS T ρ H τ σ ∧ w k Qx τ h ∧ (∀ ρ' H' h' gd ds J, Aft T ρ H ρ' h' H' → ItR T J ρ' H' gd ds → k gd ds h' → R J H') ∧ LX T ρ H Qx W σ
theorem PI.imp {tg e : Expr} {t t' : TI} (p : PI X tg e t) (i : ∀ σ H R, t' σ H R → t σ H R) : PI X tg e t' := ⟨fun pins s σ H R I w => p.run pins s σ H R I (i σ H R w)⟩
theorem itr_list {d : D} {a : Addr} {ds : List D} (rd : RelD T ρ H d (.ref a)) : ItR T (Itl T.K a) ρ H (fun h => asL h d = some ds) ds where
  go := fun i ρ' h' H' A g hi => by
    obtain ⟨p, vs, e, hq, rs⟩ := A.rp.asL (A.d rd) g
    cases e
    exact ⟨vs, vs[i]'(by rw [← rs.length]; exact hi), hq, List.getElem?_eq_getElem _⟩
  stop := fun ρ' h' H' A g => by
    obtain ⟨p, vs, e, hq, rs⟩ := A.rp.asL (A.d rd) g
    cases e
    exact ⟨vs, hq, by rw [rs.length]; exact Nat.le_refl _⟩
  yld := fun i ρ' h' H' x H'' A g hi y => by
    obtain ⟨p, vs, e, hq, rs⟩ := A.rp.asL (A.d rd) g
    cases e
    obtain ⟨rfl, y⟩ := y
    obtain ⟨v, hv, rv⟩ := rs.get (List.getElem?_eq_getElem hi)
    rw [y vs hq] at hv
    cases hv
    exact ⟨_, List.getElem?_eq_getElem hi, rv, .refl A.rp⟩
theorem itr_tup {ds : List D} {a : Addr} {vs : List V} (hp : H a = some (.tup vs)) (rs : RelDs T ρ H ds vs) : ItR T (Itt T.K a) ρ H (fun _ => True) ds where
  go := fun i ρ' h' H' A g hi => ⟨vs, vs[i]'(by rw [← rs.length]; exact hi), .of (A.ext _ _ (.inl ⟨_, rfl⟩) hp), List.getElem?_eq_getElem _⟩
  stop := fun ρ' h' H' A g => ⟨vs, .of (A.ext _ _ (.inl ⟨_, rfl⟩) hp), by rw [rs.length]; exact Nat.le_refl _⟩
  yld := fun i ρ' h' H' x H'' A g hi y => by
    obtain ⟨rfl, y⟩ := y
    obtain ⟨v, hv, rv⟩ := (A.ds rs).get (List.getElem?_eq_getElem hi)
    rw [y vs (.of (A.ext _ _ (.inl ⟨_, rfl⟩) hp))] at hv
    cases hv
    exact ⟨_, List.getElem?_eq_getElem hi, rv, .refl A.rp⟩
theorem itr_str {x : Str} {l : List Nat} (e : x.cps.toList = l) : ItR T (Its x) ρ H (fun _ => True) (l.map fun c => .str [c]) where
  go := fun i ρ' h' H' A g hi => by
    show i < x.cps.size
    rw [List.length_map, ← e] at hi
    simpa using hi
  stop := fun ρ' h' H' A g => by
    show x.cps.size ≤ _
    rw [List.length_map, ← e]
    simp
  yld := fun i ρ' h' H' v H'' A g hi y => by
    obtain ⟨rfl, c, hc, rfl⟩ := y
    refine ⟨.str [c], ?_, .str rfl, .refl A.rp⟩
    rw [List.getElem?_map, ← e, Array.getElem?_toList, hc]; rfl
theorem itr_rng {lo : Int} {n : Nat} : ItR T (Itr lo n) ρ H (fun _ => True) (rangeD lo n) where
  go := fun i ρ' h' H' A g hi => by
    show i < n
    unfold rangeD at hi
    simpa using hi
  stop := fun ρ' h' H' A g => by
    show n ≤ _
    unfold rangeD
    simp
  yld := fun i ρ' h' H' v H'' A g hi y => by
    obtain ⟨rfl, rfl⟩ := y
    unfold rangeD at hi ⊢
    have hi' : i < n := by simpa using hi
    exact ⟨.int (lo + i), by simp [hi'], .int _, .refl A.rp⟩
theorem itr_enum {d : D} {a : Addr} {ds : List D} (rd : RelD T ρ H d (.ref a)) : ItR T (Ite T.K a) ρ H (fun h => asL h d = some ds) (enumD ds) where
  go := fun i ρ' h' H' A g hi => by
    obtain ⟨p, vs, e, hq, rs⟩ := A.rp.asL (A.d rd) g
    cases e
    have hi' : i < ds.length := by unfold enumD at hi; simpa using hi
    exact ⟨vs, vs[i]'(by rw [← rs.length]; exact hi'), hq, List.getElem?_eq_getElem _⟩
  stop := fun ρ' h' H' A g => by
    obtain ⟨p, vs, e, hq, rs⟩ := A.rp.asL (A.d rd) g
    cases e
    refine ⟨vs, hq, ?_⟩
    unfold enumD
    simp [rs.length]
  yld := fun i ρ' h' H' x H'' A g hi y => by
    obtain ⟨p, vs, e, hq, rs⟩ := A.rp.asL (A.d rd) g
    cases e
    have hi' : i < ds.length := by unfold enumD at hi; simpa using hi
    obtain ⟨t, z, rfl, ht, rfl, y⟩ := y
    obtain ⟨v, hv, rv⟩ := rs.get (List.getElem?_eq_getElem hi')
    rw [y vs hq] at hv
    cases hv
    refine ⟨.tup [.int i, ds[i]], ?_, tup_new ht (.cons (.int _) (.cons rv .nil)), .tup A.rp ht⟩
    unfold enumD
    simp [List.getElem?_zipWith, hi']
theorem itr_zip {d e : D} {a b : Addr} {xs ys : List D} (rd : RelD T ρ H d (.ref a)) (re : RelD T ρ H e (.ref b)) : ItR T (Itz T.K a b) ρ H (fun h => asL h d = some xs ∧ asL h e = some ys) (zipD xs ys) where
  go := fun i ρ' h' H' A g hi => by
    obtain ⟨p, vs, e, hq, rs⟩ := A.rp.asL (A.d rd) g.1
    cases e
    obtain ⟨p, ws, e, hq2, rs2⟩ := A.rp.asL (A.d re) g.2
    cases e
    have hi' : i < xs.length ∧ i < ys.length := by unfold zipD at hi; simp at hi; omega
    exact ⟨vs, ws, vs[i]'(by rw [← rs.length]; exact hi'.1), ws[i]'(by rw [← rs2.length]; exact hi'.2), hq, hq2, List.getElem?_eq_getElem _, List.getElem?_eq_getElem _⟩
  stop := fun ρ' h' H' A g => by
    obtain ⟨p, vs, e, hq, rs⟩ := A.rp.asL (A.d rd) g.1
    cases e
    obtain ⟨p, ws, e, hq2, rs2⟩ := A.rp.asL (A.d re) g.2
    cases e
    refine ⟨vs, ws, hq, hq2, ?_⟩
    unfold zipD
    rw [List.length_zipWith, ← rs.length, ← rs2.length]
    omega
  yld := fun i ρ' h' H' x H'' A g hi y => by
    obtain ⟨p, vs, e, hq, rs⟩ := A.rp.asL (A.d rd) g.1
    cases e
    obtain ⟨p, ws, e, hq2, rs2⟩ := A.rp.asL (A.d re) g.2
    cases e
    have hi' : i < xs.length ∧ i < ys.length := by unfold zipD at hi; simp at hi; omega
    obtain ⟨t, z, z2, rfl, ht, rfl, y1, y2⟩ := y
    obtain ⟨v, hv, rv⟩ := rs.get (List.getElem?_eq_getElem hi'.1)
    obtain ⟨v2, hv2, rv2⟩ := rs2.get (List.getElem?_eq_getElem hi'.2)
    rw [y1 vs hq] at hv
    rw [y2 ws hq2] at hv2
    cases hv; cases hv2
    refine ⟨.tup [xs[i]'hi'.1, ys[i]'hi'.2], ?_, tup_new ht (.cons rv (.cons rv2 .nil)), .tup A.rp ht⟩
    unfold zipD
    simp [List.getElem?_zipWith, hi'.1, hi'.2]
/-- the pairs of a dict by their places -/
theorem KVs.at_ : ∀ {l : List (Ky × D)} {m : List (Key × V)} {i : Nat}, KVs T ρ H l m → i < l.length → ∃ k d q v, l[i]? = some (k, d) ∧ m[i]? = some (q, v) ∧ KyR k q ∧ RelD T ρ H d v
  | _, _, _, .nil, h => by simp at h
  | _, _, 0, .cons hk hd t, _ => ⟨_, _, _, _, rfl, rfl, hk, hd⟩
  | _, _, i + 1, .cons hk hd t, h => by
    obtain ⟨k, d, q, v, e1, e2, r⟩ := KVs.at_ (i := i) t (by simpa using h)
    exact ⟨k, d, q, v, by simpa using e1, by simpa using e2, r⟩
theorem itr_keys {a : Addr} {o : Obj} {m : List (Key × V)} {kvs : List (Ky × D)} {gd : Hh → Prop} (hp : H a = some (.frz o (.dK m))) (rk : KVs T ρ H kvs m) : ItR T (Itk a o m) ρ H gd (kvs.map fun p => p.1.d) where
  go := fun i ρ' h' H' A g hi => ⟨A.ext _ _ (.inr (.inr (.inr ⟨_, _, rfl⟩))) hp, by rw [← rk.length]; simpa using hi⟩
  stop := fun ρ' h' H' A g => ⟨A.ext _ _ (.inr (.inr (.inr ⟨_, _, rfl⟩))) hp, by rw [List.length_map, rk.length]; exact Nat.le_refl _⟩
  yld := fun i ρ' h' H' x H'' A g hi y => by
    obtain ⟨rfl, k, v, e, rfl⟩ := y
    obtain ⟨k', d, q, v', e1, e2, kr, _⟩ := (rk.mono A.pre A.ext).at_ (i := i) (by simpa using hi)
    rw [e] at e2
    cases e2
    exact ⟨k'.d, by rw [List.getElem?_map, e1]; rfl, kr.rel, .refl A.rp⟩
theorem itr_vals {a : Addr} {o : Obj} {m : List (Key × V)} {kvs : List (Ky × D)} {gd : Hh → Prop} (hp : H a = some (.frz o (.dK m))) (rk : KVs T ρ H kvs m) : ItR T (Itd a o m) ρ H gd (kvs.map fun p => p.2) where
  go := fun i ρ' h' H' A g hi => ⟨A.ext _ _ (.inr (.inr (.inr ⟨_, _, rfl⟩))) hp, by rw [← rk.length]; simpa using hi⟩
  stop := fun ρ' h' H' A g => ⟨A.ext _ _ (.inr (.inr (.inr ⟨_, _, rfl⟩))) hp, by rw [List.length_map, rk.length]; exact Nat.le_refl _⟩
  yld := fun i ρ' h' H' x H'' A g hi y => by
    obtain ⟨rfl, k, e⟩ := y
    obtain ⟨k', d, q, v', e1, e2, kr, rd⟩ := (rk.mono A.pre A.ext).at_ (i := i) (by simpa using hi)
    rw [e] at e2
    cases e2
    exact ⟨d, by rw [List.getElem?_map, e1]; rfl, rd, .refl A.rp⟩
theorem itr_items {a : Addr} {o : Obj} {m : List (Key × V)} {kvs : List (Ky × D)} {gd : Hh → Prop} (hp : H a = some (.frz o (.dK m))) (rk : KVs T ρ H kvs m) : ItR T (Iti a o m) ρ H gd (kvs.map fun p => .tup [p.1.d, p.2]) where
  go := fun i ρ' h' H' A g hi => ⟨A.ext _ _ (.inr (.inr (.inr ⟨_, _, rfl⟩))) hp, by rw [← rk.length]; simpa using hi⟩
  stop := fun ρ' h' H' A g => ⟨A.ext _ _ (.inr (.inr (.inr ⟨_, _, rfl⟩))) hp, by rw [List.length_map, rk.length]; exact Nat.le_refl _⟩
  yld := fun i ρ' h' H' x H'' A g hi y => by
    obtain ⟨t, k, v, e, rfl, ht, rfl⟩ := y
    obtain ⟨k', d, q, v', e1, e2, kr, rd⟩ := (rk.mono A.pre A.ext).at_ (i := i) (by simpa using hi)
    rw [e] at e2
    cases e2
    exact ⟨.tup [k'.d, d], by rw [List.getElem?_map, e1]; rfl, tup_new ht (.cons kr.rel (.cons rd .nil)), .tup A.rp ht⟩
end
end Mi

set_option Elab.async false
set_option linter.all false
set_option maxRecDepth 100000
set_option maxHeartbeats 1000000
/-! Mi: sources; locks. -/
namespace Mi
open PySem PySem.Spec PyProof.Rows L2
section
variable {X : Cx} {T : Tab} {W : WX} {ρ ρ' : List Addr} {H H' : Hp} {h h' : Hh} {σ : L2.St} {τ : Sl} {Qx : PX} {Z : Zi} {C : Cal}
abbrev IW := KI → PX → Sl → Hh → Prop
/-- the source of a value -/
theorem src_run (hK : X.K = T.K) {tg : Expr} {pins : List (Addr × Obj)} {s : Shared} (I : Inv X pins σ H s) (R : Rp T ρ h H) {d : D} {v : V} {u : Value} (rd : RelD T ρ H d v) (ru : RelV v u) {k : KI} {Rr : It → Hp → Prop} (q : srcD d k h)
    (kk : ∀ gd ds J, ItR T J ρ H gd ds → k gd ds h → Rr J H) : wpAny (model X.prog X.w) X.A (pyIter u) (PIE X pins σ tg Rr) X.xe s := by
  unfold srcD at q
  split at q
  · next ds =>
    obtain ⟨a, vs, rfl, hp, rs⟩ := relT rd
    obtain rfl : u = Value.ref a := ru
    obtain ⟨its, rv, p, hz⟩ := I.tuple (show SqT X.K H a vs from .of hp)
    refine wpAny_pyIter_tuple (show s.heap.IsTuple a its.toArray from p) ?_
    exact pi_one (tk := s.toks) I _ (turn_tuple a _) ⟨_, Heap.get?_push_size _ rfl, rfl, rfl⟩ (by rw [hK]; exact kk _ _ _ (itr_tup hp rs) q)
  · next l =>
    obtain ⟨x, rfl, e⟩ := relSt rd
    obtain ⟨t, rfl⟩ := ru
    have q' := kk _ _ _ (itr_str e) q
    cases ha : x.cps.all (· < 128)
    · exact wpAny_pyIter_wide ha (pi_one (tk := s.toks) I _ (turn_str _ x t "str_iterator" (.inr rfl)) ⟨_, Heap.get?_push_size _ rfl, rfl, rfl⟩ q')
    · exact wpAny_pyIter_ascii ha (pi_one (tk := s.toks) I _ (turn_str _ x t "str_ascii_iterator" (.inl rfl)) ⟨_, Heap.get?_push_size _ rfl, rfl, rfl⟩ q')
  · next i =>
    split at q
    · next ds e =>
      obtain ⟨a, vs, rfl, hq, rs⟩ := R.asL rd e
      obtain rfl : u = Value.ref a := ru
      obtain ⟨its, rv, p, hz⟩ := I.list (show SqL X.K H a vs by rw [hK]; exact hq)
      refine wpAny_pyIter_list p.isList ?_
      exact pi_one (tk := s.toks) I _ (turn_list a _) ⟨_, Heap.get?_push_size _ rfl, rfl, rfl⟩ (by rw [hK]; exact kk _ _ _ (itr_list rd) q)
    · exact q.elim
  · exact q.elim
theorem mi_of (hK : X.K = T.K) {tg e : Expr} {we : EW} (he : PE X e (liftE T W we)) : PI X tg e (liftI T W fun k Qx τ h => we (fun x h1 => srcD x k h1) Qx τ h) := by
  refine ⟨fun pins s σ H Rr I hw => ?_⟩
  obtain ⟨ρ, τ, h, k, Qx, R, S, q, kk, hx⟩ := hw
  refine thn (he.run pins s σ H (fun v H' => ∃ ρ' h' d, Rp T ρ' h' H' ∧ RelD T ρ' H' d v ∧ srcD d k h' ∧ Aft T ρ H ρ' h' H') I (lift1 R S hx q fun ρ1 H1 h1 d v a rd q1 => ⟨ρ1, h1, d, a.rp, rd, q1, a⟩)) fun u s1 ⟨v, H1, I1, ru, ρ1, h1, d, R1, rd, q1, a⟩ => ?_
  exact src_run hK I1 R1 rd ru q1 fun gd ds J it q2 => kk _ _ _ _ _ _ a it q2
theorem PI.or {tg e : Expr} {t t' : TI} (p : PI X tg e t) (p' : PI X tg e t') : PI X tg e fun σ H R => t σ H R ∨ t' σ H R := ⟨fun pins s σ H R I w => w.elim (p.run pins s σ H R I) (p'.run pins s σ H R I)⟩
/-- a locked dict's place -/
theorem dct_at {i a : Nat} {kvs : List (Ky × D)} (R : Rp T ρ h H) (S : RelS T ρ H τ σ) (e : dctAt τ h i = some (a, kvs)) : ∃ p o m, σ[i]? = some (some (.ref p)) ∧ τ[i]? = some (some (.ref a)) ∧ ρ[a]? = some p ∧ H p = some (.frz o (.dK m)) ∧ KVs T ρ H kvs m ∧ h[a]? = some (.dct true kvs) := by
  unfold dctAt at e
  split at e
  · next b eb =>
    split at e
    · next kvs' ek =>
      cases e
      obtain ⟨v, e1, rd⟩ := S.2 i _ eb
      cases rd with
      | @ref _ p hp =>
        cases R.ok _ p _ hp ek with
        | dcl hv rk => exact ⟨p, _, _, e1, eb, hp, hv, rk, ek⟩
    · cases e
  · cases e
theorem mi_nm (hK : X.K = T.K) {tg : Expr} {i : Nat} {x : Str} {pos : Pos} (hN : X.N[i]? = some x) (hv : Vis X.env.scope x) (hd : (x == ("__debug__" : Str)) = false) (hcd : (x == ("__classdict__" : Str)) = false) :
    PI X tg (.Name x pos) (liftI T W fun k _ τ h => match dctAt τ h i with
    | some (a, kvs) => k (fun h => h[a]? = some (.dct true kvs)) (kvs.map fun p => p.1.d) h
    | none => match τ[i]? with
      | some (some x) => srcD x k h
      | _ => False) := by
  have p0 : PE X (.Name x pos) (tVar i) := pe_var hN hv hd hcd
  have p1 : PE X (.Name x pos) (liftE T W fun Q _ τ h => match τ[i]? with
    | some (some d) => Q d h
    | _ => False) := me_v hN hv hd hcd
  refine PI.imp (PI.or (pi_keys p0) (mi_of (tg := tg) hK p1)) fun σ H Rr ⟨ρ, τ, h, k, Qx, R, S, q, kk, hx⟩ => ?_
  try dsimp only at q
  split at q
  · next a kvs e =>
    obtain ⟨p, o, m, e1, _, hp, hv, rk, _⟩ := dct_at R S e
    exact .inl ⟨.ref p, e1, p, o, rfl, .inl ⟨m, hv, kk _ _ _ _ _ _ (.refl R) (itr_keys hv rk) q⟩⟩
  · refine .inr ⟨ρ, τ, h, k, Qx, R, S, ?_, kk, hx⟩
    try dsimp only
    split at q
    · next d e => first | exact q | (rw [e]; exact q)
    · exact q.elim
theorem dctIn_of {i : Nat} {f : List (Ky × D) → List D} {k : KI} (q : dctIn τ h i f k) : ∃ a kvs, dctAt τ h i = some (a, kvs) ∧ k (fun h => h[a]? = some (.dct true kvs)) (f kvs) h := by
  unfold dctIn at q
  split at q
  · next a kvs e => exact ⟨a, kvs, e, q⟩
  · exact q.elim
theorem mi_kys {tg : Expr} {i : Nat} {x : Str} {p apos cpos : Pos} (hN : X.N[i]? = some x) (hv : Vis X.env.scope x) (hd : (x == ("__debug__" : Str)) = false) (hcd : (x == ("__classdict__" : Str)) = false) (hl : (apos.endLine == cpos.line) = true) :
    PI X tg (.Call (.Attribute (.Name x p) "keys" apos) [] [] cpos) (liftI T W fun k _ τ h => dctIn τ h i (fun kvs => kvs.map fun p => p.1.d) k) :=
  PI.imp (pi_keysM (pe_var hN hv hd hcd) rfl hl) fun σ H Rr ⟨ρ, τ, h, k, Qx, R, S, q, kk, hx⟩ => by
    obtain ⟨a, kvs, e, q⟩ := dctIn_of q
    obtain ⟨p, o, m, e1, _, hp, hv, rk, _⟩ := dct_at R S e
    exact ⟨.ref p, e1, p, o, m, rfl, hv, kk _ _ _ _ _ _ (.refl R) (itr_keys hv rk) q⟩
theorem mi_vls {tg : Expr} {i : Nat} {x : Str} {p apos cpos : Pos} (hN : X.N[i]? = some x) (hv : Vis X.env.scope x) (hd : (x == ("__debug__" : Str)) = false) (hcd : (x == ("__classdict__" : Str)) = false) (hl : (apos.endLine == cpos.line) = true) :
    PI X tg (.Call (.Attribute (.Name x p) "values" apos) [] [] cpos) (liftI T W fun k _ τ h => dctIn τ h i (fun kvs => kvs.map fun p => p.2) k) :=
  PI.imp (pi_values (pe_var hN hv hd hcd) rfl hl) fun σ H Rr ⟨ρ, τ, h, k, Qx, R, S, q, kk, hx⟩ => by
    obtain ⟨a, kvs, e, q⟩ := dctIn_of q
    obtain ⟨p, o, m, e1, _, hp, hv, rk, _⟩ := dct_at R S e
    exact ⟨.ref p, e1, p, o, m, rfl, hv, kk _ _ _ _ _ _ (.refl R) (itr_vals hv rk) q⟩
theorem mi_its {i : Nat} {x : Str} {p apos cpos tpos : Pos} {elts : List Expr} {kk0 : Nat} (hN : X.N[i]? = some x) (hv : Vis X.env.scope x) (hd : (x == ("__debug__" : Str)) = false) (hcd : (x == ("__classdict__" : Str)) = false) (hl : (apos.endLine == cpos.line) = true) :
    PI X (.Tuple elts kk0 tpos) (.Call (.Attribute (.Name x p) "items" apos) [] [] cpos) (liftI T W fun k _ τ h => dctIn τ h i (fun kvs => kvs.map fun p => .tup [p.1.d, p.2]) k) :=
  PI.imp (pi_items (pe_var hN hv hd hcd) rfl hl) fun σ H Rr ⟨ρ, τ, h, k, Qx, R, S, q, kk, hx⟩ => by
    obtain ⟨a, kvs, e, q⟩ := dctIn_of q
    obtain ⟨p, o, m, e1, _, hp, hv, rk, _⟩ := dct_at R S e
    exact ⟨.ref p, e1, p, o, m, rfl, hv, kk _ _ _ _ _ _ (.refl R) (itr_items hv rk) q⟩
theorem mi_r1 {tg : Expr} {a : Expr} {p pos : Pos} {wa : EW} (hg : Gl X "range") (hm : X.mg "range" = none) (ha : PE X a (liftE T W wa)) (hs : noStar a = true) :
    PI X tg (.Call (.Name "range" p) [a] [] pos) (liftI T W fun k Qx τ h => wa (fun x h1 => match x with
      | .int j => (-(2 ^ 62) ≤ j ∧ j < 2 ^ 62) ∧ k (fun _ => True) (rangeD 0 j.toNat) h1
      | _ => False) Qx τ h) :=
  PI.imp (pi_range1 hg hm (pa_cons ha pa_nil (starEach_cons' hs)) (starEach_cons' hs)) fun σ H Rr ⟨ρ, τ, h, k, Qx, R, S, q, kk, hx⟩ => lift1 R S hx q fun ρ1 H1 h1 d v a rd q1 => by
    split at q1
    · next j =>
      obtain ⟨⟨z1, z2⟩, q1⟩ := q1
      cases relI rd
      exact ⟨j, rfl, z1, z2, kk _ _ _ _ _ _ a itr_rng q1⟩
    · exact q1.elim
theorem mi_r2 {tg : Expr} {a b : Expr} {p pos : Pos} {wa wb : EW} (hg : Gl X "range") (hm : X.mg "range" = none) (ha : PE X a (liftE T W wa)) (hb : PE X b (liftE T W wb)) (hs : noStar a = true) (hs2 : noStar b = true) :
    PI X tg (.Call (.Name "range" p) [a, b] [] pos) (liftI T W fun k Qx τ h => wa (fun x h1 => wb (fun y h2 => match x, y with
      | .int i, .int j => (-(2 ^ 62) ≤ i ∧ i < 2 ^ 62 ∧ -(2 ^ 62) ≤ j ∧ j < 2 ^ 62) ∧ k (fun _ => True) (rangeD i (j - i).toNat) h2
      | _, _ => False) Qx τ h1) Qx τ h) :=
  PI.imp (pi_range2 hg hm (pa_cons ha (pa_cons hb pa_nil (starEach_cons' hs2)) (starEach_cons' hs)) (by rw [starEach_cons' hs, starEach_cons' hs2]; rfl) (starEach_cons' hs2)) fun σ H Rr ⟨ρ, τ, h, k, Qx, R, S, q, kk, hx⟩ => lift2 R S hx q fun ρ1 H1 h1 d e v u a rd re q1 => by
    split at q1
    · next i j =>
      obtain ⟨z, q1⟩ := q1
      cases relI rd
      cases relI re
      exact ⟨i, j, rfl, z, kk _ _ _ _ _ _ a itr_rng q1⟩
    · exact q1.elim
theorem mi_en (hK : X.K = T.K) {elts : List Expr} {kk0 : Nat} {tpos : Pos} {e : Expr} {p pos : Pos} {we : EW} (hg : Gl X "enumerate") (hm : X.mg "enumerate" = none) (he : PE X e (liftE T W we)) (hs : noStar e = true) :
    PI X (.Tuple elts kk0 tpos) (.Call (.Name "enumerate" p) [e] [] pos) (liftI T W fun k Qx τ h => we (fun x h1 => match asL h1 x with
      | some ds => k (fun h => asL h x = some ds) (enumD ds) h1
      | none => False) Qx τ h) :=
  PI.imp (pi_enum hg hm (pa_cons he pa_nil (starEach_cons' hs)) (starEach_cons' hs)) fun σ H Rr ⟨ρ, τ, h, k, Qx, R, S, q, kk, hx⟩ => lift1 R S hx q fun ρ1 H1 h1 d v a rd q1 => by
    split at q1
    · next ds e =>
      obtain ⟨p, vs, rfl, hq, rs⟩ := a.rp.asL rd e
      exact ⟨p, vs, rfl, by rw [hK]; exact hq, by rw [hK]; exact kk _ _ _ _ _ _ a (itr_enum rd) q1⟩
    · exact q1.elim
theorem mi_zp (hK : X.K = T.K) {elts : List Expr} {kk0 : Nat} {tpos : Pos} {a b : Expr} {p pos : Pos} {wa wb : EW} (hg : Gl X "zip") (hm : X.mg "zip" = none) (ha : PE X a (liftE T W wa)) (hb : PE X b (liftE T W wb)) (hs : noStar a = true) (hs2 : noStar b = true) :
    PI X (.Tuple elts kk0 tpos) (.Call (.Name "zip" p) [a, b] [] pos) (liftI T W fun k Qx τ h => wa (fun x h1 => wb (fun y h2 => match asL h2 x, asL h2 y with
      | some xs, some ys => k (fun h => asL h x = some xs ∧ asL h y = some ys) (zipD xs ys) h2
      | _, _ => False) Qx τ h1) Qx τ h) :=
  PI.imp (pi_zip hg hm (pa_cons ha (pa_cons hb pa_nil (starEach_cons' hs2)) (starEach_cons' hs)) (starEach_cons' hs) (by rw [starEach_cons' hs2]; rfl)) fun σ H Rr ⟨ρ, τ, h, k, Qx, R, S, q, kk, hx⟩ => lift2 R S hx q fun ρ1 H1 h1 d e v u a rd re q1 => by
    split at q1
    · next xs ys e1 e2 =>
      obtain ⟨p, vs, rfl, hq, rs⟩ := a.rp.asL rd e1
      obtain ⟨p2, ws, rfl, hq2, rs2⟩ := a.rp.asL re e2
      exact ⟨p, p2, vs, ws, rfl, by rw [hK]; exact hq, by rw [hK]; exact hq2, by rw [hK]; exact kk _ _ _ _ _ _ a (itr_zip rd re) q1⟩
    · exact q1.elim

/-! ### locks -/
theorem dct_free {i a : Nat} {kvs : List (Ky × D)} (R : Rp T ρ h H) (S : RelS T ρ H τ σ) (e : dctF τ h i = some (a, kvs)) : ∃ p m, ρ[a]? = some p ∧ H p = some (.dK m) ∧ KVs T ρ H kvs m := by
  unfold dctF at e
  split at e
  · next b eb =>
    split at e
    · next kvs' ek =>
      cases e
      obtain ⟨v, e1, rd⟩ := S.2 i _ eb
      cases rd with
      | @ref _ p hp =>
        cases R.ok _ p _ hp ek with
        | dct hv rk => exact ⟨p, _, hp, hv, rk⟩
    · cases e
  · cases e
theorem lk_free {r : Ir} {a : Nat} {kvs : List (Ky × D)} (R : Rp T ρ h H) (S : RelS T ρ H τ σ) (e : r.lk τ h = some (a, kvs)) : ∃ p m, ρ[a]? = some p ∧ H p = some (.dK m) ∧ KVs T ρ H kvs m := by
  cases r <;> first | exact dct_free R S e | cases e
/-- locked -/
theorem lock_rp {a : Nat} {p : Addr} {od : Obj} {m : List (Key × V)} {kvs : List (Ky × D)} (R : Rp T ρ h H) (hp : ρ[a]? = some p) (hv : H p = some (.dK m)) (rk : KVs T ρ H kvs m) : Aft T ρ H ρ (h.set a (.dct true kvs)) (upd H p (.frz od (.dK m))) :=
  Aft.set R hp hv trivial (.dcl upd_same (rk.mono (List.prefix_refl _) (Ext.chg hv trivial)))
/-- and unlocked -/
theorem unlock_aft {a : Nat} {p : Addr} {od : Obj} {m : List (Key × V)} {kvs : List (Ky × D)} (R : Rp T ρ h H) (hp : ρ[a]? = some p) (hv : H p = some (.dK m)) (rk : KVs T ρ H kvs m) (A : Aft T ρ (upd H p (.frz od (.dK m))) ρ' h' H') :
    H' p = some (.frz od (.dK m)) ∧ Aft T ρ H ρ' (h'.set a (.dct false kvs)) (upd H' p (.dK m)) := by
  have e0 : H' p = some (.frz od (.dK m)) := A.ext _ _ (.inr (.inr (.inr ⟨_, _, rfl⟩))) upd_same
  have x0 : Ext0 H' (upd H' p (.dK m)) := fun b o i e => by
    rw [upd_ne]
    · exact e
    · intro z; subst z; rw [e0] at e; cases e
      rcases i with ⟨_, z⟩ | ⟨_, _, z⟩ | ⟨_, z⟩ <;> cases z
  have x1 : Ext H (upd H' p (.dK m)) := fun b o i e => by
    have nb : b ≠ p := fun z => by
      subst z; rw [hv] at e; cases e
      rcases i with ⟨_, z⟩ | ⟨_, _, z⟩ | ⟨_, z⟩ | ⟨_, _, z⟩ <;> cases z
    rw [upd_ne nb]
    exact A.ext _ _ i (by rw [upd_ne nb]; exact e)
  refine ⟨e0, A.pre, x1, A.rp.store0 (pre_get A.pre hp) x0 (.dct upd_same (rk.mono A.pre x1))⟩
end
end Mi

set_option Elab.async false
set_option linter.all false
set_option maxRecDepth 100000
set_option maxHeartbeats 1000000
/-! Mi: comprehensions. -/
namespace Mi
open PySem PySem.Spec PyProof.Rows L2
section
variable {X : Cx} {T : Tab} {W : WX} {ρ ρ' : List Addr} {H H' : Hp} {h h' : Hh} {σ : L2.St} {τ : Sl} {Qx : PX} {Z : Zi} {C : Cal}
abbrev W0 : WX := fun _ _ _ _ => False
abbrev X0 : PX := fun _ _ _ => False
theorem lx0 : LX T ρ H X0 W0 σ := fun _ _ _ _ _ _ _ _ _ q => q
theorem RelS.wipe (S : RelS T ρ H τ σ) : ∀ vs : List Nat, RelS T ρ H (wipeA τ vs) (L2.wipe σ vs)
  | [] => S
  | v :: vs => (RelS.wipe S vs).clear v
theorem PTs.imp {ifs : List Expr} {t t' : TT} (p : PTs X ifs t) (i : ∀ σ H Q, t' σ H Q → t σ H Q) : PTs X ifs t' := ⟨fun pins s σ H Q I w => p.run pins s σ H Q I (i σ H Q w)⟩
theorem mts_nil : PTs X [] (liftB T W fun Q _ _ h => Q true h) := PTs.imp pts_nil fun σ H Q ⟨ρ, τ, h, Qa, Qx, R, S, q, k, hx⟩ => k _ _ _ _ (.refl R) q
theorem mts_one {c : Expr} {wc : EW} (p : PT X c (liftB T W (tst wc))) : PTs X [c] (liftB T W (tst wc)) := pts_one p
/-- one turn's target, test, item -/
theorem el_of {g : G} {d : D} {x : V} {wt : BW} {own : List Nat} {k1 : Sl → Hh → Prop} {sk : Hh → Prop} {K1 : L2.St → Hp → Prop} {K2 : Hp → Prop} (R : Rp T ρ h H) (S : RelS T ρ H τ σ) (rd : RelD T ρ H d x)
    (w : wG g d (fun τ1 h3 => wt (fun t h4 => if t = true then k1 τ1 h4 else sk h4) X0 τ1 h3) (wipeA τ own) h) (hs : ∀ i ∈ g.slots, i ∈ own)
    (kq : ∀ ρ2 H2 h2 τ2 σ2, Aft T ρ H ρ2 h2 H2 → RelS T ρ2 H2 τ2 σ2 → k1 τ2 h2 → K1 σ2 H2) (ks : ∀ ρ2 H2 h2, Aft T ρ H ρ2 h2 H2 → sk h2 → K2 H2) :
    liftG T g.slots (fun h d => gAs h g d) x (L2.wipe σ own) H fun σ2 H2 => L2.wipe σ2 own = L2.wipe σ own ∧ liftB T W0 wt σ2 H2 fun b H3 => if b = true then K1 σ2 H3 else K2 H3 := by
  unfold wG at w
  split at w
  · next as e =>
    refine ⟨ρ, wipeA τ own, h, d, as, R, S.wipe own, rd, e, fun σ' S' u => ⟨u.wipe hs, ρ, _, h, _, X0, R, S', w, fun ρ2 H2 h2 b a q => ?_, lx0⟩⟩
    cases b with
    | true => simp only [if_true] at q ⊢; exact kq _ _ _ _ _ a (a.s S') q
    | false => simp only [Bool.false_eq_true, if_false] at q ⊢; exact ks _ _ _ a q
  · exact w.elim
/-- [e for g in r if c] -/
def wLc (wi : IW) (g : G) (wt : BW) (we : EW) (own : List Nat) : EW := fun Q Qx τ h => wi (fun gd ds h1 => wAcc gd h1.length (fun d q sk h2 => wG g d (fun τ1 h3 => wt (fun t h4 => if t = true then we q X0 τ1 h4 else sk h4) X0 τ1 h3) (wipeA τ own) h2)
        (Q (.ref h1.length)) ds (h1 ++ [.lst []])) Qx τ h
theorem drop_cons {α : Type} {l : List α} {i : Nat} {d : α} (e : l[i]? = some d) : l.drop i = d :: l.drop (i + 1) := by
  obtain ⟨hi, rfl⟩ := List.getElem?_eq_some_iff.mp e
  exact List.drop_eq_getElem_cons hi
theorem place_new (R : Rp T ρ h H) {p : Addr} (pre : ρ ++ [p] <+: ρ') : ρ'[h.length]? = some p := by
  refine pre_get pre ?_
  rw [← R.len, List.getElem?_append_right (Nat.le_refl _), Nat.sub_self]; rfl
theorem lc_of {wi : IW} {g : G} {wt : BW} {we : EW} {own : List Nat} {Qa : PQ} {Q : VK} (R : Rp T ρ h H) (S : RelS T ρ H τ σ) (hx : LX T ρ H Qx W σ) (q : wLc wi g wt we own Qa Qx τ h) (k : LQ T ρ H Qa Q) (hs : ∀ i ∈ g.slots, i ∈ own) :
    tLc (liftI T W wi) (liftG T g.slots fun h d => gAs h g d) (liftB T W0 wt) (liftE T W0 we) own σ H Q := by
  refine ⟨ρ, τ, h, _, Qx, R, S, q, fun ρ1 H1 h1 gd ds J a1 it q1 p hp => ?_, hx⟩
  have a2 : Aft T ρ1 H1 (ρ1 ++ [p]) (h1 ++ [.lst []]) (upd H1 p (.lst [])) := .lst a1.rp hp .nil
  refine ⟨fun i m H2 => m = ds.length - i ∧ i ≤ ds.length ∧ ∃ ρ2 h2, Aft T (ρ1 ++ [p]) (upd H1 p (.lst [])) ρ2 h2 H2 ∧ wAcc gd h1.length (fun d q sk h2 => wG g d (fun τ1 h3 => wt (fun t h4 => if t = true then we q X0 τ1 h4 else sk h4) X0 τ1 h3) (wipeA τ own) h2) (Qa (.ref h1.length)) (ds.drop i) h2,
    ⟨_, rfl, Nat.zero_le _, _, _, .refl a2.rp, q1⟩, ?_⟩
  rintro i m H2 ⟨rfl, hi, ρ2, h2, a3, w⟩
  have a13 := a2.trans a3
  by_cases hlt : i < ds.length
  · obtain ⟨d0, ed0⟩ : ∃ d0, ds[i]? = some d0 := ⟨_, List.getElem?_eq_getElem hlt⟩
    rw [drop_cons ed0] at w
    obtain ⟨hg, w⟩ := w
    refine .inr ⟨it.go i _ _ _ a13 hg hlt, fun H3 => ∃ ρ3 h3, Aft T (ρ1 ++ [p]) (upd H1 p (.lst [])) ρ3 h3 H3 ∧ wAcc gd h1.length (fun d q sk h2 => wG g d (fun τ1 h3 => wt (fun t h4 => if t = true then we q X0 τ1 h4 else sk h4) X0 τ1 h3) (wipeA τ own) h2) (Qa (.ref h1.length)) (ds.drop (i + 1)) h3,
      fun H3 ⟨ρ3, h3, a4, w4⟩ => ⟨_, by omega, rfl, hlt, ρ3, h3, a4, w4⟩, fun x H3 y => ?_⟩
    obtain ⟨d, ed, rd, a4⟩ := it.yld i _ _ _ _ _ a13 hg hlt y
    rw [ed0] at ed
    cases ed
    have S4 : RelS T ρ2 H3 τ σ := a4.s (a3.s (a2.s (a1.s S)))
    refine el_of (K1 := fun σ2 H2 => liftE T W0 we σ2 H2 _) a4.rp S4 rd w hs (fun ρ5 H5 h5 τ5 σ5 a5 S5 q5 => lift1 a5.rp S5 lx0 q5 fun ρ6 H6 h6 y v a6 ry q6 => ?_) fun ρ5 H5 h5 a5 q5 => ⟨ρ5, h5, (a3.trans a4).trans a5, q5⟩
    have a36 := ((a3.trans a4).trans a5).trans a6
    have pl := place_new a1.rp a36.pre
    try dsimp only at q6
    split at q6
    · next acc ea =>
      obtain ⟨hz, q6⟩ := q6
      cases a36.rp.ok _ _ _ pl ea with
      | lst hv rs =>
        exact ⟨_, hv, by rw [← rs.length]; exact hz, ρ6, _, a36.trans (Aft.setL a36.rp pl hv (rs.append (.cons ry .nil))), q6⟩
    · exact q6.elim
  · have e : i = ds.length := by omega
    subst e
    rw [List.drop_length] at w
    obtain ⟨hg, w⟩ := w
    exact .inl ⟨it.stop _ _ _ a13 hg, k _ _ _ _ _ (a1.trans a13) (.ref (place_new a1.rp a3.pre)) w⟩
/-- {a: b for g in r if c} -/
def wDc (wi : IW) (g : G) (wt : BW) (wk we : EW) (own : List Nat) : EW := fun Q Qx τ h => wi (fun gd ds h1 => wAccD gd h1.length (fun d q sk h2 => wG g d (fun τ1 h3 => wt (fun t h4 => if t = true then wk (fun x h5 => we (q x) X0 τ1 h5) X0 τ1 h4 else sk h4) X0 τ1 h3) (wipeA τ own) h2)
        (Q (.ref h1.length)) ds (h1 ++ [.dct false []])) Qx τ h
theorem dc_of {wi : IW} {g : G} {wt : BW} {wk we : EW} {own : List Nat} {Qa : PQ} {Q : VK} (R : Rp T ρ h H) (S : RelS T ρ H τ σ) (hx : LX T ρ H Qx W σ) (q : wDc wi g wt wk we own Qa Qx τ h) (k : LQ T ρ H Qa Q) (hs : ∀ i ∈ g.slots, i ∈ own) :
    tDc (liftI T W wi) (liftG T g.slots fun h d => gAs h g d) (liftB T W0 wt) (liftE T W0 wk) (liftE T W0 we) own σ H Q := by
  refine ⟨ρ, τ, h, _, Qx, R, S, q, fun ρ1 H1 h1 gd ds J a1 it q1 p hp => ?_, hx⟩
  have a2 : Aft T ρ1 H1 (ρ1 ++ [p]) (h1 ++ [.dct false []]) (upd H1 p (.dK [])) := ⟨⟨[p], rfl⟩, Ext.new hp, a1.rp.alloc hp (.dct upd_same .nil)⟩
  refine ⟨fun i m H2 => m = ds.length - i ∧ i ≤ ds.length ∧ ∃ ρ2 h2, Aft T (ρ1 ++ [p]) (upd H1 p (.dK [])) ρ2 h2 H2 ∧ wAccD gd h1.length (fun d q sk h2 => wG g d (fun τ1 h3 => wt (fun t h4 => if t = true then wk (fun x h5 => we (q x) X0 τ1 h5) X0 τ1 h4 else sk h4) X0 τ1 h3) (wipeA τ own) h2) (Qa (.ref h1.length)) (ds.drop i) h2,
    ⟨_, rfl, Nat.zero_le _, _, _, .refl a2.rp, q1⟩, ?_⟩
  rintro i m H2 ⟨rfl, hi, ρ2, h2, a3, w⟩
  have a13 := a2.trans a3
  by_cases hlt : i < ds.length
  · obtain ⟨d0, ed0⟩ : ∃ d0, ds[i]? = some d0 := ⟨_, List.getElem?_eq_getElem hlt⟩
    rw [drop_cons ed0] at w
    obtain ⟨hg, w⟩ := w
    refine .inr ⟨it.go i _ _ _ a13 hg hlt, fun H3 => ∃ ρ3 h3, Aft T (ρ1 ++ [p]) (upd H1 p (.dK [])) ρ3 h3 H3 ∧ wAccD gd h1.length (fun d q sk h2 => wG g d (fun τ1 h3 => wt (fun t h4 => if t = true then wk (fun x h5 => we (q x) X0 τ1 h5) X0 τ1 h4 else sk h4) X0 τ1 h3) (wipeA τ own) h2) (Qa (.ref h1.length)) (ds.drop (i + 1)) h3,
      fun H3 ⟨ρ3, h3, a4, w4⟩ => ⟨_, by omega, rfl, hlt, ρ3, h3, a4, w4⟩, fun x H3 y => ?_⟩
    obtain ⟨d, ed, rd, a4⟩ := it.yld i _ _ _ _ _ a13 hg hlt y
    rw [ed0] at ed
    cases ed
    have S4 : RelS T ρ2 H3 τ σ := a4.s (a3.s (a2.s (a1.s S)))
    refine el_of (K1 := fun σ2 H2 => liftE T W0 wk σ2 H2 fun _ H3 => liftE T W0 we σ2 H3 _) a4.rp S4 rd w hs (fun ρ5 H5 h5 τ5 σ5 a5 S5 q5 => lift2 (Ra := fun x y h6 => _) a5.rp S5 lx0 q5 fun ρ6 H6 h6 y z v u a6 ry rz q6 => ?_) fun ρ5 H5 h5 a5 q5 => ⟨ρ5, h5, (a3.trans a4).trans a5, q5⟩
    have a36 := ((a3.trans a4).trans a5).trans a6
    have pl := place_new a1.rp a36.pre
    try dsimp only at q6
    split at q6
    · next acc kk ea ek =>
      obtain ⟨hz, q6⟩ := q6
      cases a36.rp.ok _ _ _ pl ea with
      | dct hv rk =>
        obtain ⟨kq, kr, rfl⟩ := KyR.of ry ek
        exact ⟨_, kq, rfl, hv, by rw [← rk.length]; exact hz, ρ6, _, a36.trans (Aft.setK a36.rp pl hv (rk.put kr rz)), q6⟩
    · exact q6.elim
  · have e : i = ds.length := by omega
    subst e
    rw [List.drop_length] at w
    obtain ⟨hg, w⟩ := w
    exact .inl ⟨it.stop _ _ _ a13 hg, k _ _ _ _ _ (a1.trans a13) (.ref (place_new a1.rp a3.pre)) w⟩
/-- [e for g in r if c for g1 in r1 if c1] -/
def wLc2 (wi : IW) (g : G) (wt : BW) (wi1 : IW) (g1 : G) (wt1 : BW) (we : EW) (own own1 : List Nat) : EW := fun Q Qx τ h => wi (fun gd ds h1 => wAcc gd h1.length (fun d _ sk h2 => wG g d (fun τ1 h3 => wt (fun t h4 => if t = true then
        wi1 (fun gd1 ds1 h5 => wAcc gd1 h1.length (fun d1 q1 sk1 h6 => wG g1 d1 (fun τ2 h7 => wt1 (fun t1 h8 => if t1 = true then we q1 X0 τ2 h8 else sk1 h8) X0 τ2 h7) (wipeA τ1 own1) h6) sk ds1 h5) X0 τ1 h4
        else sk h4) X0 τ1 h3) (wipeA τ own) h2) (Q (.ref h1.length)) ds (h1 ++ [.lst []])) Qx τ h
theorem lc2_of {wi wi1 : IW} {g g1 : G} {wt wt1 : BW} {we : EW} {own own1 : List Nat} {Qa : PQ} {Q : VK} (R : Rp T ρ h H) (S : RelS T ρ H τ σ) (hx : LX T ρ H Qx W σ) (q : wLc2 wi g wt wi1 g1 wt1 we own own1 Qa Qx τ h) (k : LQ T ρ H Qa Q) (hs : ∀ i ∈ g.slots, i ∈ own) (hs1 : ∀ i ∈ g1.slots, i ∈ own1) :
    tLc2 (liftI T W wi) (liftG T g.slots fun h d => gAs h g d) (liftB T W0 wt) (liftI T W0 wi1) (liftG T g1.slots fun h d => gAs h g1 d) (liftB T W0 wt1) (liftE T W0 we) own own1 σ H Q := by
  refine ⟨ρ, τ, h, _, Qx, R, S, q, fun ρ1 H1 h1 gd ds J a1 it q1 p hp => ?_, hx⟩
  have a2 : Aft T ρ1 H1 (ρ1 ++ [p]) (h1 ++ [.lst []]) (upd H1 p (.lst [])) := .lst a1.rp hp .nil
  generalize hk : (fun (d : D) (_ : PQ) (sk : Hh → Prop) (h2 : Hh) => wG g d (fun τ1 h3 => wt (fun t h4 => if t = true then
        wi1 (fun gd1 ds1 h5 => wAcc gd1 h1.length (fun d1 q1 sk1 h6 => wG g1 d1 (fun τ2 h7 => wt1 (fun t1 h8 => if t1 = true then we q1 X0 τ2 h8 else sk1 h8) X0 τ2 h7) (wipeA τ1 own1) h6) sk ds1 h5) X0 τ1 h4
        else sk h4) X0 τ1 h3) (wipeA τ own) h2) = body at q1
  refine ⟨fun i m H2 => m = ds.length - i ∧ i ≤ ds.length ∧ ∃ ρ2 h2, Aft T (ρ1 ++ [p]) (upd H1 p (.lst [])) ρ2 h2 H2 ∧ wAcc gd h1.length body (Qa (.ref h1.length)) (ds.drop i) h2, ⟨_, rfl, Nat.zero_le _, _, _, .refl a2.rp, q1⟩, ?_⟩
  rintro i m H2 ⟨rfl, hi, ρ2, h2, a3, w⟩
  have a13 := a2.trans a3
  by_cases hlt : i < ds.length
  · obtain ⟨d0, ed0⟩ : ∃ d0, ds[i]? = some d0 := ⟨_, List.getElem?_eq_getElem hlt⟩
    rw [drop_cons ed0] at w
    obtain ⟨hg, w⟩ := w
    refine .inr ⟨it.go i _ _ _ a13 hg hlt, fun H3 => ∃ ρ3 h3, Aft T (ρ1 ++ [p]) (upd H1 p (.lst [])) ρ3 h3 H3 ∧ wAcc gd h1.length body (Qa (.ref h1.length)) (ds.drop (i + 1)) h3, fun H3 ⟨ρ3, h3, a4, w4⟩ => ⟨_, by omega, rfl, hlt, ρ3, h3, a4, w4⟩, fun x H3 y => ?_⟩
    obtain ⟨d, ed, rd, a4⟩ := it.yld i _ _ _ _ _ a13 hg hlt y
    rw [ed0] at ed
    cases ed
    have S4 : RelS T ρ2 H3 τ σ := a4.s (a3.s (a2.s (a1.s S)))
    rw [← hk] at w
    refine el_of (K1 := fun σ2 H2 => liftI T W0 wi1 σ2 H2 _) a4.rp S4 rd w hs (fun ρ5 H5 h5 τ5 σ5 a5 S5 q5 => ⟨ρ5, τ5, h5, _, X0, a5.rp, S5, q5, fun ρ6 H6 h6 gd1 ds1 J1 a6 it1 q6 => ?_, lx0⟩) fun ρ5 H5 h5 a5 q5 => ⟨ρ5, h5, (a3.trans a4).trans a5, by rw [← hk]; exact q5⟩
    refine ⟨fun j n H7 => n = ds1.length - j ∧ j ≤ ds1.length ∧ ∃ ρ7 h7, Aft T ρ6 H6 ρ7 h7 H7 ∧ wAcc gd1 h1.length (fun d1 q1 sk1 h6 => wG g1 d1 (fun τ2 h7 => wt1 (fun t1 h8 => if t1 = true then we q1 X0 τ2 h8 else sk1 h8) X0 τ2 h7) (wipeA τ5 own1) h6) (wAcc gd h1.length body (Qa (.ref h1.length)) (ds.drop (i + 1))) (ds1.drop j) h7,
      ⟨_, rfl, Nat.zero_le _, _, _, .refl a6.rp, by rw [← hk]; exact q6⟩, ?_⟩
    rintro j n H7 ⟨rfl, hj, ρ7, h7, a7, w7⟩
    have a37 := (((a3.trans a4).trans a5).trans a6).trans a7
    by_cases hlt1 : j < ds1.length
    · obtain ⟨d1, ed1⟩ : ∃ d1, ds1[j]? = some d1 := ⟨_, List.getElem?_eq_getElem hlt1⟩
      rw [drop_cons ed1] at w7
      obtain ⟨hg1, w7⟩ := w7
      refine .inr ⟨it1.go j _ _ _ a7 hg1 hlt1, fun H8 => ∃ ρ8 h8, Aft T ρ6 H6 ρ8 h8 H8 ∧ wAcc gd1 h1.length (fun d1 q1 sk1 h6 => wG g1 d1 (fun τ2 h7 => wt1 (fun t1 h8 => if t1 = true then we q1 X0 τ2 h8 else sk1 h8) X0 τ2 h7) (wipeA τ5 own1) h6) (wAcc gd h1.length body (Qa (.ref h1.length)) (ds.drop (i + 1))) (ds1.drop (j + 1)) h8,
        fun H8 ⟨ρ8, h8, a8, w8⟩ => ⟨_, by omega, rfl, hlt1, ρ8, h8, a8, w8⟩, fun x H8 y => ?_⟩
      obtain ⟨d, ed, rd, a8⟩ := it1.yld j _ _ _ _ _ a7 hg1 hlt1 y
      rw [ed1] at ed
      cases ed
      have S8 : RelS T ρ7 H8 τ5 σ5 := a8.s (a7.s (a6.s S5))
      refine el_of (K1 := fun σ2 H2 => liftE T W0 we σ2 H2 _) a8.rp S8 rd w7 hs1 (fun ρ9 H9 h9 τ9 σ9 a9 S9 q9 => lift1 a9.rp S9 lx0 q9 fun ρA HA hA y v aA ry qA => ?_) fun ρ9 H9 h9 a9 q9 => ⟨ρ9, h9, (a7.trans a8).trans a9, q9⟩
      have a3A := ((a37.trans a8).trans a9).trans aA
      have pl := place_new a1.rp a3A.pre
      try dsimp only at qA
      split at qA
      · next acc ea =>
        obtain ⟨hz, qA⟩ := qA
        cases a3A.rp.ok _ _ _ pl ea with
        | lst hv rs =>
          exact ⟨_, hv, by rw [← rs.length]; exact hz, ρA, _, (((a7.trans a8).trans a9).trans aA).trans (Aft.setL a3A.rp pl hv (rs.append (.cons ry .nil))), qA⟩
      · exact qA.elim
    · have e : j = ds1.length := by omega
      subst e
      rw [List.drop_length] at w7
      obtain ⟨hg1, w7⟩ := w7
      exact .inl ⟨it1.stop _ _ _ a7 hg1, ρ7, h7, a37, w7⟩
  · have e : i = ds.length := by omega
    subst e
    rw [List.drop_length] at w
    obtain ⟨hg, w⟩ := w
    exact .inl ⟨it.stop _ _ _ a13 hg, k _ _ _ _ _ (a1.trans a13) (.ref (place_new a1.rp a3.pre)) w⟩
/-- locked meanwhile -/
def wLk (r : Ir) (w : EW) : EW := fun Q Qx τ h => match r.lk τ h with
    | none => w Q Qx τ h
    | some (a, kvs) => w (fun z h' => unlk a kvs (Q z) h') Qx τ (h.set a (.dct true kvs))
theorem lk_of {r : Ir} {w : EW} {t : TE} {Qa : PQ} {Q : VK} (i : ∀ σ H Q, liftE T W w σ H Q → t σ H Q) (R : Rp T ρ h H) (S : RelS T ρ H τ σ) (hx : LX T ρ H Qx W σ) (q : wLk r w Qa Qx τ h) (k : LQ T ρ H Qa Q) : t σ H Q ∨ tLockE t σ H Q := by
  unfold wLk at q
  split at q
  · exact .inl (i _ _ _ ⟨ρ, τ, h, Qa, Qx, R, S, q, k, hx⟩)
  · next a kvs e =>
    obtain ⟨p, m, hp, hv, rk⟩ := lk_free R S e
    refine .inr ⟨p, .dK m, hv, trivial, fun od => i _ _ _ ?_⟩
    have a1 := lock_rp (od := od) R hp hv rk
    refine ⟨ρ, τ, _, _, Qx, a1.rp, a1.s S, q, fun ρ2 H2 h2 z v a2 rz ⟨_, q2⟩ => ?_, hx.aft a1⟩
    obtain ⟨e0, a3⟩ := unlock_aft R hp hv rk a2
    exact ⟨e0, k _ _ _ _ _ a3 (rz.mono0 (List.prefix_refl _) fun b o i e => by
      rw [upd_ne]
      · exact e
      · intro z; subst z; rw [e0] at e; cases e
        rcases i with ⟨_, z⟩ | ⟨_, _, z⟩ | ⟨_, z⟩ <;> cases z) q2⟩
theorem PE.or {e : Expr} {t t' : TE} (p : PE X e t) (p' : PE X e t') : PE X e fun σ H Q => t σ H Q ∨ t' σ H Q := ⟨fun pins s σ H Q I w => w.elim (p.run pins s σ H Q I) (p'.run pins s σ H Q I)⟩
theorem me_lk {e : Expr} {r : Ir} {w : EW} {t : TE} (p : PE X e t) (i : ∀ σ H Q, liftE T W w σ H Q → t σ H Q) : PE X e (liftE T W (wLk r w)) :=
  PE.imp (PE.or p (pe_lock p)) fun σ H Q ⟨ρ, τ, h, Qa, Qx, R, S, q, k, hx⟩ => lk_of i R S hx q k
end
end Mi

set_option Elab.async false
set_option linter.all false
set_option maxRecDepth 100000
set_option maxHeartbeats 1000000
/-! Mi: statements. -/
namespace Mi
open PySem PySem.Spec PyProof.Rows L2
abbrev SW := En → Sl → Hh → Prop
structure EnR (T : Tab) (ρ : List Addr) (H : Hp) (Dn : En) (D : Ends) (W : WX) : Prop where
  nx : ∀ ρ' H' h' τ' σ', Aft T ρ H ρ' h' H' → RelS T ρ' H' τ' σ' → Dn.nx τ' h' → D.nx σ' H'
  rt : ∀ ρ' H' h' d v, Aft T ρ H ρ' h' H' → RelD T ρ' H' d v → Dn.rt d h' → D.rt v H'
  bk : ∀ ρ' H' h' τ' σ', Aft T ρ H ρ' h' H' → RelS T ρ' H' τ' σ' → Dn.bk τ' h' → D.bk σ' H'
  ct : ∀ ρ' H' h' τ' σ', Aft T ρ H ρ' h' H' → RelS T ρ' H' τ' σ' → Dn.ct τ' h' → D.ct σ' H'
  ex : ∀ ρ' H' h' τ' σ' c fs cls dx, Aft T ρ H ρ' h' H' → RelS T ρ' H' τ' σ' → RelX T ρ' H' c fs cls dx → Dn.ex c fs τ' h' → W cls dx σ' H'
def liftS (T : Tab) (W : WX) (w : SW) : TS := fun D σ H => ∃ ρ τ h Dn, Rp T ρ h H ∧ RelS T ρ H τ σ ∧ w Dn τ h ∧ EnR T ρ H Dn D W
section
variable {X : Cx} {T : Tab} {W : WX} {ρ ρ' : List Addr} {H H' : Hp} {h h' : Hh} {σ : L2.St} {τ : Sl} {Dn : En} {D : Ends} {Z : Zi} {C : Cal}
theorem EnR.aft (n : EnR T ρ H Dn D W) (a : Aft T ρ H ρ' h' H') : EnR T ρ' H' Dn D W where
  nx := fun _ _ _ _ _ b => n.nx _ _ _ _ _ (a.trans b)
  rt := fun _ _ _ _ _ b => n.rt _ _ _ _ _ (a.trans b)
  bk := fun _ _ _ _ _ b => n.bk _ _ _ _ _ (a.trans b)
  ct := fun _ _ _ _ _ b => n.ct _ _ _ _ _ (a.trans b)
  ex := fun _ _ _ _ _ _ _ _ _ b => n.ex _ _ _ _ _ _ _ _ _ (a.trans b)
theorem EnR.lx (n : EnR T ρ H Dn D W) (S : RelS T ρ H τ σ) : LX T ρ H (Dn.px τ) W σ := fun _ _ _ _ _ _ _ a r q => n.ex _ _ _ _ _ _ _ _ _ a (a.s S) r q
theorem ms_ex {e : Expr} {pos : Pos} {we : EW} (he : PE X e (liftE T W we)) (hs : swapsWith e none pos.line X.env = pure false) : PS X (.Expr e pos) (liftS T W fun D τ h => we (fun _ h1 => D.nx τ h1) (D.px τ) τ h) :=
  PS.imp (ps_expr he hs) fun D σ H ⟨ρ, τ, h, Dn, R, S, q, n⟩ => lift1 R S (n.lx S) q fun ρ1 H1 h1 d v a rd q1 => n.nx _ _ _ _ _ a (a.s S) q1
theorem wG_of {g : G} {d : Mi.D} {k : Sl → Hh → Prop} (q : wG g d k τ h) : ∃ as, gAs h g d = some as ∧ k (setA τ as) h := by
  unfold wG at q
  split at q
  · next as e => exact ⟨as, e, q⟩
  · exact q.elim
theorem ms_asg {tg e : Expr} {pos : Pos} {g : G} {we : EW} (he : PE X e (liftE T W we)) (hg : PG X tg (liftG T g.slots fun h d => gAs h g d)) (hs : swapsWithSole [tg] e pos.line X.env = pure false) (hw : swappedStores [tg] e X.env = pure none) (hns : noStar tg = true) :
    PS X (.Assign [tg] e pos) (liftS T W fun D τ h => we (fun d h1 => wG g d D.nx τ h1) (D.px τ) τ h) :=
  PS.imp (ps_asg he hg hs hw (by rw [assignEach_cons' hns]; rfl)) fun D σ H ⟨ρ, τ, h, Dn, R, S, q, n⟩ => lift1 R S (n.lx S) q fun ρ1 H1 h1 d v a rd q1 => by
    obtain ⟨as, e, q1⟩ := wG_of q1
    exact ⟨ρ1, τ, h1, d, as, a.rp, a.s S, rd, e, fun σ' S' u => n.nx _ _ _ _ _ a S' q1⟩
theorem PS.or {st : Stmt} {t t' : TS} (p : PS X st t) (p' : PS X st t') : PS X st fun D σ H => t D σ H ∨ t' D σ H := ⟨fun pins s σ H D I w => w.elim (p.run pins s σ H D I) (p'.run pins s σ H D I)⟩
/-- name = a comprehension -/
theorem ms_asgC {st : Stmt} {i : Nat} {r : Ir} {w : EW} {t : TE} (p : PS X st (tAsg t (gName i))) (j : ∀ σ H Q, liftE T W w σ H Q → t σ H Q) : PS X st (liftS T W fun D τ h => wLk r w (fun d h1 => wG (.n i) d D.nx τ h1) (D.px τ) τ h) :=
  PS.imp (PS.or p (ps_lock p)) fun D σ H ⟨ρ, τ, h, Dn, R, S, q, n⟩ => lk_of (Q := fun x H1 => gName i x σ H1 D.nx) j R S (n.lx S) q fun ρ1 H1 h1 d v a rd q1 => by
    obtain ⟨as, e, q1⟩ := wG_of q1
    unfold gAs at e
    cases e
    exact n.nx _ _ _ _ _ a ((a.s S).set i rd) q1
theorem ms_asgC2 {st : Stmt} {i : Nat} {w : EW} {t : TE} (p : PS X st (tAsg t (gName i))) (j : ∀ σ H Q, liftE T W w σ H Q → t σ H Q) : PS X st (liftS T W fun D τ h => w (fun d h1 => wG (.n i) d D.nx τ h1) (D.px τ) τ h) :=
  PS.imp p fun D σ H ⟨ρ, τ, h, Dn, R, S, q, n⟩ => j _ _ _ ⟨ρ, τ, h, _, _, R, S, q, fun ρ1 H1 h1 d v a rd q1 => by
    obtain ⟨as, e, q1⟩ := wG_of q1
    unfold gAs at e
    cases e
    exact n.nx _ _ _ _ _ a ((a.s S).set i rd) q1, n.lx S⟩
theorem PSet.or {t t' : TSet} (p : PSet X t) (p' : PSet X t') : PSet X fun o i v H Q => t o i v H Q ∨ t' o i v H Q := fun pins s σ H o i v ov iv u Q I ro ri rv w => w.elim (p pins s σ H o i v ov iv u Q I ro ri rv) (p' pins s σ H o i v ov iv u Q I ro ri rv)
/-- o[i] = d -/
def subP (k : Hh → Prop) (x y d : Mi.D) (h3 : Hh) : Prop := match x with
      | .ref a => (match h3[a]? with
        | some (.lst xs) => (match y with
          | .int i => (match ixN xs.length i with
            | some j => k (h3.set a (.lst (xs.set j d)))
            | none => False)
          | _ => False)
        | some (.dct false kvs) => (match y.ky with
          | some q => kvs.length < sizeLine ∧ k (h3.set a (.dct false (putKd kvs q d)))
          | none => False)
        | _ => False)
      | _ => False
theorem sub_of {x y d : Mi.D} {o i v : V} {k : Hh → Prop} {Q : Hp → Prop} (R : Rp T ρ h H) (rx : RelD T ρ H x o) (ry : RelD T ρ H y i) (rd : RelD T ρ H d v) (q : subP k x y d h) (kk : ∀ h' H', Aft T ρ H ρ h' H' → k h' → Q H') : rSetL o i v H Q ∨ rSetD o i v H Q := by
  unfold subP at q
  split at q
  · next a =>
    split at q
    · next xs ea =>
      split at q
      · next j =>
        split at q
        · next n en =>
          obtain ⟨p, vs, rfl, hp, hv, rs⟩ := R.lst rx ea
          cases relI ry
          exact .inl ⟨p, vs, j, n, rfl, rfl, hv, by rw [← rs.length]; exact en, kk _ _ (Aft.setL R hp hv (rs.set n rd)) q⟩
        · exact q.elim
      · exact q.elim
    · next kvs ea =>
      split at q
      · next ky ek =>
        obtain ⟨hz, q⟩ := q
        cases rx with
        | @ref _ p hp =>
          cases R.ok _ p _ hp ea with
          | dct hv rk =>
            obtain ⟨kq, kr, rfl⟩ := KyR.of ry ek
            exact .inr ⟨p, _, rfl, DPut.k hv (by rw [← rk.length]; exact hz), kk _ _ (Aft.setK R hp hv (rk.put kr rd)) q⟩
      · exact q.elim
    · exact q.elim
  · exact q.elim
theorem ms_sub (hu : X.A.units + 200 < cLine) {o i e : Expr} {pos p2 : Pos} {wo wi we : EW} (he : PE X e (liftE T W we)) (ho : PE X o (liftE T W wo)) (hi : PE X i (liftE T W wi)) (hs : swapsWithSole [.Subscript o i p2] e pos.line X.env = pure false) (hw : swappedStores [.Subscript o i p2] e X.env = pure none)
    (ha : ∀ v, assign (.Subscript o i p2) X.env v = (do let ov ← holding [v] (eval o X.env); let iv ← holding [v, ov] (eval i X.env); standAt p2; holding [v, ov, iv] (setItem ov iv v); release [v, ov, iv] [])) :
    PS X (.Assign [.Subscript o i p2] e pos) (liftS T W fun D τ h => we (fun d h1 => wo (fun x h2 => wi (fun y h3 => subP (fun h4 => D.nx τ h4) x y d h3) (D.px τ) τ h2) (D.px τ) τ h1) (D.px τ) τ h) := by
  have hu1 : X.A.units + 1 < cLine := by omega
  refine PS.imp (ps_asg he (pg_sub ho hi (PSet.or set_list (set_dict hu1)) ha) hs hw rfl) fun D σ H ⟨ρ, τ, h, Dn, R, S, q, n⟩ => ?_
  refine lift1 R S (n.lx S) q fun ρ1 H1 h1 d v a rd q1 => lift2 a.rp (a.s S) ((n.aft a).lx (a.s S)) q1 fun ρ2 H2 h2 x y ov iv b rx ry q2 => ?_
  exact sub_of b.rp rx ry (b.d rd) q2 fun h' H' c q3 => n.nx _ _ _ _ _ ((a.trans b).trans c) (c.s (b.s (a.s S))) q3
theorem ms_par {i j : Nat} {x y : Str} {a b : Expr} {px py pt : Pos} {kt k2 pt2} {pos : Pos} {wa wb : EW} (hc : X.calm = true) (hN : X.N.Nodup) (hi : X.N[i]? = some x) (hj : X.N[j]? = some y) (hij : i ≠ j)
    (hx : X.env.scope.names.lookup x = some .local) (hy : X.env.scope.names.lookup y = some .local) (ha : PE X a (liftE T W wa)) (hb : PE X b (liftE T W wb)) (hs : noStar a = true) (hs2 : noStar b = true)
    (hw : swappedStores [.Tuple [.Name x px, .Name y py] kt pt] (.Tuple [a, b] k2 pt2) X.env = pure (some [x, y])) :
    PS X (.Assign [.Tuple [.Name x px, .Name y py] kt pt] (.Tuple [a, b] k2 pt2) pos) (liftS T W fun D τ h => wa (fun x h1 => wb (fun y h2 => D.nx ((τ.set i (some x)).set j (some y)) h2) (D.px τ) τ h1) (D.px τ) τ h) :=
  PS.imp (ps_par hc hN hi hj hij hx hy (pa_cons ha (pa_cons hb pa_nil (starEach_cons' hs2)) (starEach_cons' hs)) hw rfl) fun D σ H ⟨ρ, τ, h, Dn, R, S, q, n⟩ => lift2 R S (n.lx S) q fun ρ1 H1 h1 d e v u a rd re q1 =>
    ⟨v, u, rfl, n.nx _ _ _ _ _ a (((a.s S).set i rd).set j re) q1⟩
/-- name op= e, ints -/
def augP (o : Op2) (x y : Mi.D) (k : Mi.D → Prop) : Prop := match o, x, y with
      | .add, .int a, .int b => k (.int (a + b))
      | .sub, .int a, .int b => k (.int (a - b))
      | _, _, _ => False
theorem ms_aug {i : Nat} {x : Str} {e : Expr} {op : Operator} {o : Op2} {p2 pos : Pos} {we : EW} {f : Int → Int → Int} (hN : X.N.Nodup) (hi : X.N[i]? = some x) (hx : Loc X.env.scope x) (he : PE X e (liftE T W we)) (ho : PIp X op (ipI f)) (hf : X.fn x = true ∨ X.env.scope.names.lookup x = some .local)
    (hp : ∀ x y k, augP o x y k → ∃ a b, x = .int a ∧ y = .int b ∧ k (.int (f a b))) :
    PS X (.AugAssign (.Name x p2) op e pos) (liftS T W fun D τ h => match τ[i]? with
    | some (some x) => we (fun y h1 => augP o x y fun z => D.nx (τ.set i (some z)) h1) (D.px τ) τ h
    | _ => False) :=
  PS.imp (ps_aug hN hi hx he ho hf) fun D σ H ⟨ρ, τ, h, Dn, R, S, q, n⟩ => by
    dsimp only at q
    split at q
    · next d ed =>
      obtain ⟨v, e1, rd⟩ := S.2 i d ed
      refine ⟨v, e1, lift1 R S (n.lx S) q fun ρ1 H1 h1 y u a ry q1 => ?_⟩
      obtain ⟨c, b, rfl, rfl, q2⟩ := hp _ _ _ q1
      cases relI rd
      cases relI ry
      exact ⟨c, b, rfl, rfl, n.nx _ _ _ _ _ a ((a.s S).set i (.int _)) q2⟩
    · exact q.elim
theorem ms_ret {e : Expr} {pos : Pos} {we : EW} (he : PE X e (liftE T W we)) : PS X (.Return (some e) pos) (liftS T W fun D τ h => we D.rt (D.px τ) τ h) :=
  PS.imp (ps_ret he) fun D σ H ⟨ρ, τ, h, Dn, R, S, q, n⟩ => ⟨ρ, τ, h, _, _, R, S, q, fun ρ1 H1 h1 d v a rd q1 => n.rt _ _ _ _ _ a rd q1, n.lx S⟩
theorem ms_retN {pos : Pos} : PS X (.Return none pos) (liftS T W fun D _ h => D.rt .non h) :=
  PS.imp ps_retN fun D σ H ⟨ρ, τ, h, Dn, R, S, q, n⟩ => n.rt _ _ _ _ _ (.refl R) .non q
theorem ms_if {c : Expr} {a b : List Stmt} {pos : Pos} {wc : EW} {wa wb : SW} (hc : PT X c (liftB T W (tst wc))) (ha : PSs X a (liftS T W wa)) (hb : PSs X b (liftS T W wb)) :
    PS X (.If c a b pos) (liftS T W fun D τ h => wc (fun x h1 => okB (truD h1 x) fun t => if t = true then wa D τ h1 else wb D τ h1) (D.px τ) τ h) :=
  PS.imp (ps_if hc ha hb) fun D σ H ⟨ρ, τ, h, Dn, R, S, q, n⟩ => liftT1 (w := tst wc) R S (n.lx S) q fun ρ1 H1 h1 t a q1 => by
    cases t with
    | true => simp only [if_true] at q1 ⊢; exact ⟨ρ1, τ, h1, Dn, a.rp, a.s S, q1, n.aft a⟩
    | false => simp only [Bool.false_eq_true, if_false] at q1 ⊢; exact ⟨ρ1, τ, h1, Dn, a.rp, a.s S, q1, n.aft a⟩
theorem ms_brk {pos : Pos} : PS X (.Break pos) (liftS T W fun D τ h => D.bk τ h) := PS.imp ps_break fun D σ H ⟨ρ, τ, h, Dn, R, S, q, n⟩ => n.bk _ _ _ _ _ (.refl R) S q
theorem ms_cnt {pos : Pos} : PS X (.Continue pos) (liftS T W fun D τ h => D.ct τ h) := PS.imp ps_continue fun D σ H ⟨ρ, τ, h, Dn, R, S, q, n⟩ => n.ct _ _ _ _ _ (.refl R) S q
theorem ms_pas {pos : Pos} : PS X (.Pass pos) (liftS T W fun D τ h => D.nx τ h) := PS.imp ps_pass fun D σ H ⟨ρ, τ, h, Dn, R, S, q, n⟩ => n.nx _ _ _ _ _ (.refl R) S q
theorem ms_doc {x j pos pos'} : PS X (.Expr (.Constant (.str x) j pos) pos') (liftS T W fun D τ h => D.nx τ h) := PS.imp ps_doc fun D σ H ⟨ρ, τ, h, Dn, R, S, q, n⟩ => n.nx _ _ _ _ _ (.refl R) S q
theorem mss_nil : PSs X [] (liftS T W fun D τ h => D.nx τ h) := PSs.imp pss_nil fun D σ H ⟨ρ, τ, h, Dn, R, S, q, n⟩ => n.nx _ _ _ _ _ (.refl R) S q
theorem mss_cons {st : Stmt} {ss : List Stmt} {w : SW} {ws : SW} (h1 : PS X st (liftS T W w)) (h2 : PSs X ss (liftS T W ws)) : PSs X (st :: ss) (liftS T W fun D τ h => w { D with nx := ws D } τ h) :=
  PSs.imp (pss_cons h1 h2) fun D σ H ⟨ρ, τ, h, Dn, R, S, q, n⟩ => ⟨ρ, τ, h, _, R, S, q, ⟨fun ρ1 H1 h1 τ1 σ1 a S1 q1 => ⟨ρ1, τ1, h1, Dn, a.rp, S1, q1, n.aft a⟩, n.rt, n.bk, n.ct, n.ex⟩⟩
theorem ms_while {c : Expr} {body : List Stmt} {pos : Pos} {wc : EW} {wb : SW} (hp : PassesOwn (model X.prog X.w) X.A X.env X.xe) (hc : PT X c (liftB T W (tst wc))) (hb : PSs X body (liftS T W wb)) :
    PS X (.While c body [] pos) (liftS T W fun D τ h => wWhl (fun k τ1 h1 => wc (fun x h2 => okB (truD h2 x) fun t => k t h2) (D.px τ1) τ1 h1) (fun k τ1 h1 => wb { D with nx := k, ct := k, bk := D.nx } τ1 h1) D.nx τ h) :=
  PS.imp (ps_while hp hc hb) fun D σ H ⟨ρ, τ, h, Dn, R, S, q, n⟩ => by
    obtain ⟨I, ⟨m, hm⟩, step⟩ := q
    refine ⟨fun m σ' H' => ∃ ρ' τ' h', Aft T ρ H ρ' h' H' ∧ RelS T ρ' H' τ' σ' ∧ I m τ' h', ⟨m, ρ, τ, h, .refl R, S, hm⟩, fun m σ' H' ⟨ρ1, τ1, h1, a, S1, i1⟩ => ?_⟩
    refine liftT1 (w := tst wc) a.rp S1 ((n.aft a).lx S1) (step m τ1 h1 i1) fun ρ2 H2 h2 t b q2 => ?_
    cases t with
    | true =>
      simp only [if_true] at q2 ⊢
      refine ⟨fun σ3 H3 => ∃ m', m' < m ∧ ∃ ρ' τ' h', Aft T ρ H ρ' h' H3 ∧ RelS T ρ' H3 τ' σ3 ∧ I m' τ' h', fun σ3 H3 x => x, ρ2, τ1, h2, _, b.rp, b.s S1, q2, ?_⟩
      have n2 := n.aft (a.trans b)
      exact ⟨fun ρ3 H3 h3 τ3 σ3 c S3 ⟨m', hm', i3⟩ => ⟨m', hm', ρ3, τ3, h3, (a.trans b).trans c, S3, i3⟩, n2.rt, n2.nx, fun ρ3 H3 h3 τ3 σ3 c S3 ⟨m', hm', i3⟩ => ⟨m', hm', ρ3, τ3, h3, (a.trans b).trans c, S3, i3⟩, n2.ex⟩
    | false =>
      simp only [Bool.false_eq_true, if_false] at q2 ⊢
      exact n.nx _ _ _ _ _ (a.trans b) (b.s S1) q2
/-- for -/
def wFor (wi : IW) (g : G) (wb : SW) : SW := fun D τ h => wi (fun gd ds h1 => wItems gd (fun d k τ1 h2 => wG g d (fun τ2 h3 => wb { D with nx := k, ct := k, bk := D.nx } τ2 h3) τ1 h2) D.nx ds τ h1) (D.px τ) τ h
theorem for_of {wi : IW} {g : G} {wb : SW} : ∀ D σ H, liftS T W (wFor wi g wb) D σ H → tFor (liftI T W wi) (liftG T g.slots fun h d => gAs h g d) (liftS T W wb) D σ H := fun D σ H ⟨ρ, τ, h, Dn, R, S, q, n⟩ => by
  refine ⟨ρ, τ, h, _, _, R, S, q, fun ρ1 H1 h1 gd ds J a1 it q1 => ?_, n.lx S⟩
  refine ⟨fun i m σ2 H2 => m = ds.length - i ∧ i ≤ ds.length ∧ ∃ ρ2 τ2 h2, Aft T ρ1 H1 ρ2 h2 H2 ∧ RelS T ρ2 H2 τ2 σ2 ∧ wItems gd (fun d k τ1 h2 => wG g d (fun τ2 h3 => wb { Dn with nx := k, ct := k, bk := Dn.nx } τ2 h3) τ1 h2) Dn.nx (ds.drop i) τ2 h2,
    ⟨_, rfl, Nat.zero_le _, ρ1, τ, h1, .refl a1.rp, a1.s S, q1⟩, ?_⟩
  rintro i m σ2 H2 ⟨rfl, hi, ρ2, τ2, h2, a2, S2, w⟩
  by_cases hlt : i < ds.length
  · obtain ⟨d0, ed0⟩ : ∃ d0, ds[i]? = some d0 := ⟨_, List.getElem?_eq_getElem hlt⟩
    rw [drop_cons ed0] at w
    obtain ⟨hg, w⟩ := w
    refine .inr ⟨it.go i _ _ _ a2 hg hlt, fun σ3 H3 => ∃ ρ3 τ3 h3, Aft T ρ1 H1 ρ3 h3 H3 ∧ RelS T ρ3 H3 τ3 σ3 ∧ wItems gd (fun d k τ1 h2 => wG g d (fun τ2 h3 => wb { Dn with nx := k, ct := k, bk := Dn.nx } τ2 h3) τ1 h2) Dn.nx (ds.drop (i + 1)) τ3 h3,
      fun σ3 H3 ⟨ρ3, τ3, h3, a3, S3, w3⟩ => ⟨_, by omega, rfl, hlt, ρ3, τ3, h3, a3, S3, w3⟩, fun x H3 y => ?_⟩
    obtain ⟨d, ed, rd, a3⟩ := it.yld i _ _ _ _ _ a2 hg hlt y
    rw [ed0] at ed
    cases ed
    obtain ⟨as, ea, w⟩ := wG_of w
    refine ⟨ρ2, τ2, h2, d0, as, a3.rp, a3.s S2, rd, ea, fun σ4 S4 u => ⟨ρ2, _, h2, _, a3.rp, S4, w, ?_⟩⟩
    have a123 := a2.trans a3
    have n2 := n.aft (a1.trans a123)
    exact ⟨fun ρ5 H5 h5 τ5 σ5 c S5 q5 => ⟨ρ5, τ5, h5, a123.trans c, S5, q5⟩, n2.rt, n2.nx, fun ρ5 H5 h5 τ5 σ5 c S5 q5 => ⟨ρ5, τ5, h5, a123.trans c, S5, q5⟩, n2.ex⟩
  · have e : i = ds.length := by omega
    subst e
    rw [List.drop_length] at w
    obtain ⟨hg, w⟩ := w
    exact .inl ⟨it.stop _ _ _ a2 hg, n.nx _ _ _ _ _ (a1.trans a2) S2 w⟩
def wLkS (r : Ir) (w : SW) : SW := fun D τ h => match r.lk τ h with
    | none => w D τ h
    | some (a, kvs) => w (D.unlk a kvs) τ (h.set a (.dct true kvs))
theorem ms_lk {st : Stmt} {r : Ir} {w : SW} {t : TS} (p : PS X st t) (j : ∀ D σ H, liftS T W w D σ H → t D σ H) : PS X st (liftS T W (wLkS r w)) :=
  PS.imp (PS.or p (ps_lock p)) fun D σ H ⟨ρ, τ, h, Dn, R, S, q, n⟩ => by
    unfold wLkS at q
    split at q
    · exact .inl (j _ _ _ ⟨ρ, τ, h, Dn, R, S, q, n⟩)
    · next a kvs e =>
      obtain ⟨p, m, hp, hv, rk⟩ := lk_free R S e
      refine .inr ⟨p, .dK m, hv, trivial, fun od => j _ _ _ ?_⟩
      have a1 := lock_rp (od := od) R hp hv rk
      have un : ∀ {ρ2 : List Addr} {H2 : Hp} {h2 : Hh}, Aft T ρ (upd H p (.frz od (.dK m))) ρ2 h2 H2 → H2 p = some (.frz od (.dK m)) ∧ Aft T ρ H ρ2 (h2.set a (.dct false kvs)) (upd H2 p (.dK m)) ∧ Ext0 H2 (upd H2 p (.dK m)) := fun a2 => by
        obtain ⟨e0, a3⟩ := unlock_aft R hp hv rk a2
        exact ⟨e0, a3, fun b o i e => by
          rw [upd_ne]
          · exact e
          · intro z; subst z; rw [e0] at e; cases e
            rcases i with ⟨_, z⟩ | ⟨_, _, z⟩ | ⟨_, z⟩ <;> cases z⟩
      have rs : ∀ {ρ2 : List Addr} {H2 H3 : Hp} {τ2 : Sl} {σ2 : L2.St}, Ext0 H2 H3 → RelS T ρ2 H2 τ2 σ2 → RelS T ρ2 H3 τ2 σ2 := fun x s => ⟨s.1, fun i d e => by
        obtain ⟨v, e1, r⟩ := s.2 i d e
        exact ⟨v, e1, r.mono0 (List.prefix_refl _) x⟩⟩
      refine ⟨ρ, τ, _, _, a1.rp, a1.s S, q, ⟨fun ρ2 H2 h2 τ2 σ2 a2 S2 ⟨_, q2⟩ => ?_, fun ρ2 H2 h2 d v a2 rd ⟨_, q2⟩ => ?_, fun ρ2 H2 h2 τ2 σ2 a2 S2 ⟨_, q2⟩ => ?_, fun ρ2 H2 h2 τ2 σ2 a2 S2 ⟨_, q2⟩ => ?_, fun ρ2 H2 h2 τ2 σ2 c fs cls dx a2 S2 rx q2 => ?_⟩⟩
      · obtain ⟨e0, a3, x⟩ := un a2
        exact ⟨e0, n.nx _ _ _ _ _ a3 (rs x S2) q2⟩
      · obtain ⟨e0, a3, x⟩ := un a2
        exact ⟨e0, n.rt _ _ _ _ _ a3 (rd.mono0 (List.prefix_refl _) x) q2⟩
      · obtain ⟨e0, a3, x⟩ := un a2
        exact ⟨e0, n.bk _ _ _ _ _ a3 (rs x S2) q2⟩
      · obtain ⟨e0, a3, x⟩ := un a2
        exact ⟨e0, n.ct _ _ _ _ _ a3 (rs x S2) q2⟩
      · exact n.ex _ _ _ _ _ _ _ _ _ (a1.trans a2) S2 rx q2
theorem ms_rse (hc : X.calm = true) (tk : Takes X W) {c : Nat} {e : Expr} {ws : AW} {pos : Pos} (p : PMk X e (liftM T W c (wMk Z c ws))) : PS X (.Raise (some e) none pos) (liftS T W fun D τ h => ws (fun ds h1 => match Z.mkf c ds with
      | some fs => D.ex c fs τ h1
      | none => False) (D.px τ) τ h) :=
  PS.imp (ps_raise hc tk p) fun D σ H ⟨ρ, τ, h, Dn, R, S, q, n⟩ => ⟨ρ, τ, h, fun fs h1 => Dn.ex c fs τ h1, _, R, S, q, fun ρ1 H1 h1 fs cls dx a rx q1 => n.ex _ _ _ _ _ _ _ _ _ a (a.s S) rx q1, n.lx S⟩
/-- try: .. except c as n: m = n -/
theorem ms_try {body : List Stmt} {x n m : Str} {c : Nat} {cv : Value} {i j : Nat} {wb : SW} {np pos pos' py pv' pa : Pos} (hK : X.K = T.K) (hs : X.stack = X.env :: X.outer) (hf : X.env.frame = some X.env.locals) (hN : X.N.Nodup) (hi : X.N[i]? = some n) (hln : X.env.kindOf n = some .local) (hj : X.N[j]? = some m) (hlm : Loc X.env.scope m) (hfm : X.fn m = true ∨ X.env.scope.names.lookup m = some .local)
    (hd : (n == ("__debug__" : Str)) = false) (hcd : (n == ("__classdict__" : Str)) = false) (hc : Names X x cv) (tk : Takes X W) (hex : X.ex = []) (hE : ∀ e, e < Z.nx → PySem.W.exmOne T.K (.ref (T.xa e)) cv = some (Z.le e c))
    (hb : ∀ (W' : WX) (pn : List (Addr × Obj)) (xe : Value → Shared → Prop), Takes (X.tr pn xe) W' → PassesOwn (model X.prog X.w) X.A X.env xe → PSs (X.tr pn xe) body (liftS T W' wb)) :
    PS X (.Try body [.ExceptHandler (some (.Name x np)) (some n) [.Assign [.Name m py] (.Name n pv') pa] pos'] [] [] pos) (liftS T W fun D τ h => wb { D with ex := fun e fs τ1 h1 => e < Z.nx ∧ if Z.le e c = true then D.nx (((τ1.set i (some (.exn e fs))).set j (some (.exn e fs))).set i none) h1 else D.ex e fs τ1 h1 } τ h) :=
  PS.imp (ps_try_keep (tb := fun W' => liftS T W' wb) hs hf hN hi hln hj hlm hfm hd hcd hc tk hex hb) fun D σ H ⟨ρ, τ, h, Dn, R, S, q, n⟩ => by
    refine ⟨ρ, τ, h, _, R, S, q, ⟨n.nx, n.rt, n.bk, n.ct, fun ρ1 H1 h1 τ1 σ1 e fs cls dx a S1 rx ⟨he, q1⟩ => ⟨Z.le e c, T.xa e, rx.1, by rw [rx.1, hK]; exact hE e he, fun et p hp => ?_, fun ef => ?_⟩⟩⟩
    · rw [if_pos et] at q1
      have aa : Aft T ρ1 H1 ρ1 h1 (upd H1 p (ExH (T.xa e) dx p)) := .tup a.rp hp
      have re : RelD T ρ1 (upd H1 p (ExH (T.xa e) dx p)) (.exn e fs) (.ref p) := by
        rcases rx.2 with ⟨rfl, rfl⟩ | ⟨d, vs, rfl, hd, hl, rs⟩
        · exact .exn upd_same
        · exact .exf upd_same (by rw [upd_ne (fun z => by rw [z, hp] at hd; cases hd)]; exact hd) hl (aa.ds rs)
      exact n.nx _ _ _ _ _ (a.trans aa) ((((aa.s S1).set i re).set j re).clear i) q1
    · rw [if_neg (by rw [ef]; exact Bool.false_ne_true)] at q1
      exact n.ex _ _ _ _ _ _ _ _ _ a S1 rx q1
end
end Mi

set_option Elab.async false
set_option linter.all false
set_option maxRecDepth 100000
set_option maxHeartbeats 4000000
/-! Mi: sorted(set(xs)), dict(x). -/
namespace Mi
open PySem PySem.Spec PyProof.Rows L2
/-! ### ascending lists of texts -/
theorem ins1_mem {x y : List Nat} : ∀ {l : List (List Nat)}, y ∈ ins1 x l ↔ y = x ∨ y ∈ l
  | [] => by simp [ins1]
  | z :: r => by
    unfold ins1
    split
    · simp
    · split
      · next e => subst e; simp
      · rw [List.mem_cons, ins1_mem, List.mem_cons]
        exact ⟨fun h => h.elim (fun a => .inr (.inl a)) (fun a => a.elim .inl fun b => .inr (.inr b)), fun h => h.elim (fun a => .inr (.inl a)) fun a => a.elim .inl fun b => .inr (.inr b)⟩
theorem ssort_mem {y : List Nat} : ∀ {l : List (List Nat)}, y ∈ ssort l ↔ y ∈ l
  | [] => by simp [ssort]
  | x :: r => by
    have z : ssort (x :: r) = ins1 x (ssort r) := rfl
    rw [z, ins1_mem, ssort_mem, List.mem_cons]
theorem ins1_up {x : List Nat} : ∀ {l : List (List Nat)}, l.Pairwise (· < ·) → (ins1 x l).Pairwise (· < ·)
  | [], _ => by simp [ins1]
  | z :: r, h => by
    obtain ⟨h1, h2⟩ := List.pairwise_cons.mp h
    unfold ins1
    split
    · next lt =>
      refine List.pairwise_cons.mpr ⟨fun y hy => ?_, h⟩
      rcases List.mem_cons.mp hy with e | e
      · rw [e]; exact lt
      · exact List.lt_trans lt (h1 y e)
    · next nl =>
      split
      · exact h
      · next ne =>
        refine List.pairwise_cons.mpr ⟨fun y hy => ?_, ins1_up h2⟩
        rcases ins1_mem.mp hy with e | e
        · rw [e]
          have le : z ≤ x := nl
          rcases List.le_iff_lt_or_eq.mp le with q | q
          · exact q
          · exact absurd q.symm ne
        · exact h1 y e
theorem ssort_up : ∀ (l : List (List Nat)), (ssort l).Pairwise (· < ·)
  | [] => List.Pairwise.nil
  | x :: r => ins1_up (ssort_up r)
theorem up_eq : ∀ {l m : List (List Nat)}, l.Pairwise (· < ·) → m.Pairwise (· < ·) → (∀ x, x ∈ l ↔ x ∈ m) → l = m
  | [], [], _, _, _ => rfl
  | [], y :: m, _, _, h => by have := (h y).2 List.mem_cons_self; cases this
  | x :: l, [], _, _, h => by have := (h x).1 List.mem_cons_self; cases this
  | x :: l, y :: m, h1, h2, h => by
    obtain ⟨a1, a2⟩ := List.pairwise_cons.mp h1
    obtain ⟨b1, b2⟩ := List.pairwise_cons.mp h2
    have exy : x = y := by
      rcases List.mem_cons.mp ((h x).1 List.mem_cons_self) with e | e
      · exact e
      · rcases List.mem_cons.mp ((h y).2 List.mem_cons_self) with e' | e'
        · exact e'.symm
        · exact absurd (List.lt_trans (b1 x e) (a1 y e')) (List.lt_irrefl y)
    subst exy
    have rest : ∀ z, z ∈ l ↔ z ∈ m := fun z => by
      constructor
      · intro hz
        rcases List.mem_cons.mp ((h z).1 (List.mem_cons_of_mem _ hz)) with e | e
        · exact absurd (a1 z hz) (by rw [e]; exact List.lt_irrefl x)
        · exact e
      · intro hz
        rcases List.mem_cons.mp ((h z).2 (List.mem_cons_of_mem _ hz)) with e | e
        · exact absurd (b1 z hz) (by rw [e]; exact List.lt_irrefl x)
        · exact e
    rw [up_eq a2 b2 rest]
theorem ssort_same {l m : List (List Nat)} (h : ∀ x, x ∈ l ↔ x ∈ m) : ssort l = ssort m :=
  up_eq (ssort_up l) (ssort_up m) fun x => by rw [ssort_mem, ssort_mem, h x]
theorem rising_up : ∀ {p : Str} {l : List Str}, risingS p l = true → ∀ y ∈ l, p.cps.toList ≤ y.cps.toList
  | _, [], _, _, hy => by cases hy
  | p, x :: r, h, y, hy => by
    unfold risingS at h
    rw [Bool.and_eq_true, Bool.not_eq_true', ltCps_eq, decide_eq_false_iff_not] at h
    have le : p.cps.toList ≤ x.cps.toList := h.1
    rcases List.mem_cons.mp hy with e | e
    · rw [e]; exact le
    · exact List.le_trans le (rising_up h.2 y e)
theorem rising_all : ∀ {p : Str} {l : List Str}, risingS p l = true → ((p :: l).map fun y => y.cps.toList).Pairwise (· ≤ ·)
  | p, [], _ => by simp
  | p, x :: r, h => by
    have h0 := rising_up h
    unfold risingS at h
    rw [Bool.and_eq_true] at h
    rw [List.map_cons]
    refine List.pairwise_cons.mpr ⟨fun y hy => ?_, rising_all h.2⟩
    obtain ⟨z, hz, rfl⟩ := List.mem_map.mp hy
    exact h0 z hz
theorem sorted_up : ∀ {l : List Str}, sortedS l = true → l.Nodup → (l.map fun y => y.cps.toList).Pairwise (· < ·)
  | [], _, _ => List.Pairwise.nil
  | p :: l, h, nd => by
    have le := rising_all (p := p) (l := l) h
    have nd2 : ((p :: l).map fun y => y.cps.toList).Pairwise (· ≠ ·) := List.Pairwise.map _ (fun a b ne e => ne (str_ext e)) nd
    exact (le.and nd2).imp fun {a b} ⟨q1, q2⟩ => by
      rcases List.le_iff_lt_or_eq.mp q1 with q | q
      · exact q
      · exact absurd q q2
section
variable {X : Cx} {T : Tab} {W : WX}
theorem noStarE_ok {e : Expr} (h : noStar e = true) {env : Env} : starEach [e] env = [(false, eval e env)] := starEach_cons' h
/-- sorted(set(e)) -/
theorem me_sset (hc : X.calm = true) (hK : X.K = T.K) {p p2 pos pos2 : Pos} {e : Expr} {wa : EW} (hg : Gl X "sorted") (hm : X.mg "sorted" = none) (hg2 : Gl X "set") (hm2 : X.mg "set" = none) (ha : PE X e (liftE T W wa)) (hns : noStar e = true) :
    PE X (.Call (.Name "sorted" p) [.Call (.Name "set" p2) [e] [] pos2] [] pos) (liftE T W fun Q Qx τ h => wa (fun x h1 => okS (ssetS h1 [x]) Q) Qx τ h) := by
  have inner := pe_callTy (pos := pos2) (p := p2) (cr_setS hc) hg2 hm2 (rfl : bootBuiltins "set" = some (.type "set")) (pa_cons ha pa_nil (starEach_cons' hns)) (by decide) (by decide) (starEach_cons' hns) rfl
  refine PE.imp (pe_callB (cr_sortSet hc) hg hm (rfl : bootBuiltins "sorted" = some (.builtin "sorted")) (pa_cons inner pa_nil) (by decide) (by decide)) fun σ H Q ⟨ρ, τ, h, Qa, Qx, R, S, q, k, hx⟩ => ?_
  refine lift1 R S hx q fun ρ1 H1 h1 d v a rd q1 => ?_
  unfold ssetS at q1
  dsimp only at q1
  cases e1 : asL h1 d with
  | none => rw [e1] at q1; exact q1.elim
  | some ds =>
    rw [e1, Option.bind_some] at q1
    cases e2 : strsD ds with
    | none => rw [e2] at q1; exact q1.elim
    | some ls =>
      rw [e2, Option.bind_some] at q1
      by_cases few : ls.length < 64
      · rw [if_pos few] at q1
        obtain ⟨p', vs, rfl, hq, rs⟩ := a.rp.asL rd e1
        obtain ⟨ys, rfl, ey⟩ := rs.strs e2
        have yl : ys.length = ls.length := by rw [← ey, List.length_map]
        refine ⟨p', ys, rfl, by rw [hK]; exact hq, by omega, fun pa Ds mem len na => ⟨pa, Ds, rfl, upd_same, by omega, fun zs pb so nd mem2 nb => ?_⟩⟩
        have ez : zs.map (fun y => y.cps.toList) = ssort ls := up_eq (sorted_up so nd) (ssort_up ls) fun x => by
          rw [ssort_mem, ← ey]
          constructor
          · intro hx
            obtain ⟨z, hz, rfl⟩ := List.mem_map.mp hx
            exact List.mem_map_of_mem ((mem z).1 ((mem2 z).1 hz))
          · intro hx
            obtain ⟨z, hz, rfl⟩ := List.mem_map.mp hx
            exact List.mem_map_of_mem ((mem2 z).2 ((mem z).2 hz))
        have a1 : Aft T ρ1 H1 ρ1 h1 (upd H1 pa (SSetO X.w pa Ds)) := .tup a.rp na
        have a2 : Aft T ρ1 (upd H1 pa (SSetO X.w pa Ds)) (ρ1 ++ [pb]) (h1 ++ [.lst ((ssort ls).map D.str)]) (upd (upd H1 pa (SSetO X.w pa Ds)) pb (.lst (zs.map V.str))) :=
          .lst a1.rp nb (by rw [← ez]; exact rel_strs zs)
        exact k _ _ _ _ _ ((a.trans a1).trans a2) (ref_new a1.rp) q1
      · rw [if_neg few] at q1; exact q1.elim
end
section
variable {X : Cx} {T : Tab}
theorem Aft.dct {ρ : List Addr} {H : Hp} {h : Hh} (R : Rp T ρ h H) {p : Addr} (hp : H p = none) {kvs : List (Ky × D)} {m : List (Key × V)} (r : KVs T ρ H kvs m) : Aft T ρ H (ρ ++ [p]) (h ++ [.dct false kvs]) (upd H p (.dK m)) :=
  ⟨⟨[p], rfl⟩, Ext.new hp, R.alloc hp (.dct upd_same (r.mono ⟨[p], rfl⟩ (Ext.new hp)))⟩
theorem RelDs.pairs {ρ : List Addr} {H : Hp} : ∀ {ds : List D} {xs : List V} {kvs : List (Ky × D)}, RelDs T ρ H ds xs → pairsD ds = some kvs → ∃ (ps : List Addr) (m : List (Key × V)), xs = ps.map V.ref ∧ Paired (fun p kv => SqT T.K H p [kV kv.1, kv.2]) ps m ∧ KVs T ρ H kvs m := by
  intro ds
  induction ds with
  | nil => intro xs kvs r e; cases r; cases e; exact ⟨[], [], rfl, .nil, .nil⟩
  | cons d ds ih =>
    intro xs kvs r e
    unfold pairsD at e
    split at e
    · next h => cases h
    · next k z r' h =>
      cases h
      cases r with
      | cons r rs =>
      obtain ⟨ky, e1, e⟩ := Option.bind_eq_some_iff.mp e
      obtain ⟨kvs', e2, rfl⟩ := Option.map_eq_some_iff.mp e
      obtain ⟨ps, m, rfl, pp, rk⟩ := ih rs e2
      obtain ⟨p, vs, rfl, hp, rv⟩ := relT r
      cases rv with
      | cons r1 rv =>
      cases rv with
      | cons r2 rv =>
      cases rv
      obtain ⟨q, hq, rfl⟩ := KyR.of r1 e1
      exact ⟨p :: ps, (q, _) :: m, rfl, .cons (.of hp) pp, .cons hq r2 rk⟩
    · cases e
theorem cr_dictS (hK : X.K = T.K) (hc : X.calm = true) : CallR X (.type "dict") (rN T dictS) := by
  intro pins s σ H xs us Q I r hr
  obtain ⟨ρ, h, ds, R, rd, a⟩ := hr
  unfold dictS at a
  split at a
  · next x =>
    obtain ⟨v, rfl, rx⟩ := rd.one
    split at a
    · next kvs ek =>
      obtain ⟨p, m, rfl, hd, rk⟩ := R.asK rx ek
      refine call_dictD pins s σ H _ us Q I r ⟨p, m, rfl, hd, fun p' hn => ?_⟩
      obtain ⟨z, h', e, q⟩ := a
      cases e
      exact q _ _ _ (.dct R hn rk) (ref_new R)
    · obtain ⟨ys, el, a⟩ := a.bind
      obtain ⟨kvs, ep, a⟩ := a.map
      obtain ⟨p, vs, rfl, hq, rs⟩ := R.asL rx el
      obtain ⟨ps, m, rfl, pp, rk⟩ := rs.pairs ep
      refine call_dictP hc pins s σ H _ us Q I r ⟨p, ps, m, rfl, by rw [hK]; exact hq, by rw [hK]; exact pp, fun p' hn => ?_⟩
      obtain ⟨z, h', e, q⟩ := a
      cases e
      exact q _ _ _ (.dct R hn (KVs.merge rk .nil)) (ref_new R)
  · exact a.no.elim
end
/-! ### sorted(d) -/
section
variable {X : Cx} {T : Tab}
theorem KVs.keysS {ρ : List Addr} {H : Hp} : ∀ {kvs : List (Ky × D)} {m : List (Key × V)} {ls : List (List Nat)}, KVs T ρ H kvs m → Mi.keysS kvs = some ls → ∃ ks : List Str, m.map (·.1) = ks.map Sum.inr ∧ ks.map (fun y => y.cps.toList) = ls := by
  intro kvs
  induction kvs with
  | nil => intro m ls r e; cases r; cases e; exact ⟨[], rfl, rfl⟩
  | cons p kvs ih =>
    intro m ls r e
    obtain ⟨k, d⟩ := p
    cases r with
    | cons hk hd t =>
    cases k with
    | i n => cases e
    | s l =>
      unfold Mi.keysS at e
      obtain ⟨ls', e1, rfl⟩ := Option.map_eq_some_iff.mp e
      obtain ⟨ks, e2, e3⟩ := ih t e1
      cases hk with
      | s hl => exact ⟨_ :: ks, by rw [List.map_cons, e2, List.map_cons], by rw [List.map_cons, hl, e3]⟩
theorem nodup_of_map' {α β : Type} {f : α → β} {l : List α} (h : (l.map f).Nodup) : l.Nodup := List.Pairwise.of_map f (fun _ _ ne e => ne (congrArg f e)) h
theorem cr_sortdS (hc : X.calm = true) : CallR X (.builtin "sorted") (rN T sortdS) := by
  intro pins s σ H xs us Q I r hr
  obtain ⟨ρ, h, ds, R, rd, a⟩ := hr
  unfold sortdS at a
  split at a
  · obtain ⟨v, rfl, rx⟩ := rd.one
    obtain ⟨kvs, ek, a⟩ := a.bind
    obtain ⟨ls, es, a⟩ := a.bind
    obtain ⟨⟨few, nd⟩, a⟩ := a.ite
    obtain ⟨p, m, rfl, hd, rk⟩ := R.asK rx ek
    obtain ⟨ks, e1, e2⟩ := rk.keysS es
    refine call_sortedD hc pins s σ H _ us Q I r ⟨p, m, ks, rfl, hd, e1, by rw [← e2, List.length_map] at few; exact few, fun ys p' perm so hn => ?_⟩
    have ndk : ks.Nodup := nodup_of_map' (f := fun y : Str => y.cps.toList) (by rw [e2]; exact nd)
    have ez : ys.map (fun y => y.cps.toList) = ssort ls := up_eq (sorted_up so (perm.nodup_iff.mpr ndk)) (ssort_up ls) fun x => by
      rw [ssort_mem, ← e2]
      exact (perm.map _).mem_iff
    exact a.lst R rfl (by rw [← ez]; exact rel_strs ys) p' hn
  · exact a.no.elim
end
/-! ### list(zip(x, y)) -/
section
variable {X : Cx} {T : Tab} {W : WX} {ρ : List Addr} {H : Hp} {h : Hh}
theorem aft_many (R : Rp T ρ h H) : ∀ {r : List (Addr × HO)}, (∀ p ∈ r, H p.1 = none) → (r.map (·.1)).Nodup → Aft T ρ H ρ h (addH H r)
  | [], _, _ => .refl R
  | p :: r, hf, nd => by
    rw [List.map_cons, List.nodup_cons] at nd
    have a := aft_many R (r := r) (fun q hq => hf q (List.mem_cons_of_mem _ hq)) nd.2
    have free : addH H r p.1 = none := by rw [addH_old nd.1]; exact hf p List.mem_cons_self
    exact a.trans (.tup a.rp free)
theorem rel_pairs : ∀ {as bs : List D} {xs ys : List V} {ts : List Addr}, RelDs T ρ H as xs → RelDs T ρ H bs ys → ts.length = xs.length → xs.length = ys.length → (∀ (j : Nat) (t : Addr) (x y : V), ts[j]? = some t → xs[j]? = some x → ys[j]? = some y → H t = some (.tup [x, y])) → RelDs T ρ H (zipD as bs) (ts.map V.ref)
  | _, _, _, _, [], .nil, .nil, _, _, _ => .nil
  | _, _, _, _, [], .cons _ _, _, l, _, _ => by cases l
  | _, _, _, _, t :: ts, .nil, _, l, _, _ => by cases l
  | _, _, _, _, t :: ts, .cons _ _, .nil, _, l, _ => by cases l
  | _, _, _, _, t :: ts, .cons r1 rs1, .cons r2 rs2, l1, l2, hp => by
    refine .cons (.tup (hp 0 t _ _ rfl rfl rfl) (.cons r1 (.cons r2 .nil))) (rel_pairs rs1 rs2 (by simpa using l1) (by simpa using l2) fun j t x y a b c => hp (j + 1) t x y (by simpa using a) (by simpa using b) (by simpa using c))
theorem me_lzip (hc : X.calm = true) (hK : X.K = T.K) {p p2 pos pos2 : Pos} {e1 e2 : Expr} {ws : AW} (hg : Gl X "list") (hm : X.mg "list" = none) (hg2 : Gl X "zip") (hm2 : X.mg "zip" = none) (ha : PA X [e1, e2] (liftA T W ws)) (hns : ∀ y ∈ [e1, e2], noStar y = true) :
    PE X (.Call (.Name "list" p) [.Call (.Name "zip" p2) [e1, e2] [] pos2] [] pos) (liftE T W fun Q Qx τ h => ws (fun ds h' => okS (lzipS h' ds) Q) Qx τ h) := by
  refine PE.imp (pe_lz hc hg hm hg2 hm2 ha (starEach_cons' (hns e1 (by simp))) (starEach_any fun y hy => hns y (by simp at hy; simp [hy]))) fun σ H Q ⟨ρ, τ, h, Qa, Qx, R, S, q, k, hx⟩ => ?_
  refine ⟨ρ, τ, h, _, Qx, R, S, q, fun ρ1 H1 h1 ds vs a rs q1 => ?_, hx⟩
  have core : ∀ (pa pb : Addr) (as bs : List D) (xs ys : List V), vs = [.ref pa, .ref pb] → RelDs T ρ1 H1 as xs → RelDs T ρ1 H1 bs ys → as.length = bs.length → ((SqL X.K H1 pa xs ∧ SqL X.K H1 pb ys) ∨ (SqT X.K H1 pa xs ∧ SqT X.K H1 pb ys)) → Qa (.ref h1.length) (h1 ++ [.lst (zipD as bs)]) →
      ∃ a b xs ys, vs = [.ref a, .ref b] ∧ ((SqL X.K H1 a xs ∧ SqL X.K H1 b ys) ∨ (SqT X.K H1 a xs ∧ SqT X.K H1 b ys)) ∧ xs.length = ys.length ∧
        ∀ (S : Addr) (ts : List Addr), ts.length = xs.length → ts.Nodup → S ∉ ts → H1 S = none → (∀ t ∈ ts, H1 t = none) → Q (.ref S) (upd (addH H1 (ts.zip (prV xs ys))) S (.lst (ts.map V.ref))) := by
    intro pa pb as bs xs ys ev r1 r2 len hq q2
    have lx : xs.length = ys.length := by rw [← r1.length, ← r2.length, len]
    refine ⟨pa, pb, xs, ys, ev, hq, lx, fun Sx ts lt nd nS fS ft => ?_⟩
    have keys : (ts.zip (prV xs ys)).map (·.1) = ts := by
      have e : (ts.zip (prV xs ys)).map Prod.fst = ts := List.map_fst_zip (by rw [lt]; unfold prV; rw [List.length_zipWith, lx, Nat.min_self]; exact Nat.le_refl _)
      exact e
    have a1 : Aft T ρ1 H1 ρ1 h1 (addH H1 (ts.zip (prV xs ys))) := aft_many a.rp (fun p hp => ft p.1 (by rw [← keys]; exact List.mem_map_of_mem hp)) (by rw [keys]; exact nd)
    have free : addH H1 (ts.zip (prV xs ys)) Sx = none := by rw [addH_old (by rw [keys]; exact nS)]; exact fS
    have a2 := Aft.lst a1.rp free (rel_pairs (a1.ds r1) (a1.ds r2) lt lx fun j t x y ht hx hy => addH_new (by rw [keys]; exact nd) j (t, .tup [x, y]) (List.getElem?_zip_eq_some.mpr ⟨ht, prV_at hx hy⟩))
    exact k _ _ _ _ _ ((a.trans a1).trans a2) (ref_new a1.rp) q2
  unfold lzipS at q1
  split at q1
  · next as bs =>
    obtain ⟨x, y, rfl, rx, ry⟩ := rs.two
    obtain ⟨pa, xs, rfl, h1', r1⟩ := relT rx
    obtain ⟨pb, ys, rfl, h2', r2⟩ := relT ry
    by_cases len : as.length = bs.length
    · rw [if_pos len] at q1
      exact core pa pb as bs xs ys rfl r1 r2 len (.inr ⟨.of h1', .of h2'⟩) q1
    · rw [if_neg len] at q1; exact q1.elim
  · next i j =>
    obtain ⟨x, y, rfl, rx, ry⟩ := rs.two
    cases ea : asL h1 (.ref i) with
    | none => rw [ea] at q1; exact q1.elim
    | some as =>
      rw [ea, Option.bind_some] at q1
      cases eb : asL h1 (.ref j) with
      | none => rw [eb] at q1; exact q1.elim
      | some bs =>
        rw [eb, Option.bind_some] at q1
        obtain ⟨pa, xs, rfl, h1', r1⟩ := a.rp.asL rx ea
        obtain ⟨pb, ys, rfl, h2', r2⟩ := a.rp.asL ry eb
        by_cases len : as.length = bs.length
        · rw [if_pos len] at q1
          exact core pa pb as bs xs ys rfl r1 r2 len (.inl ⟨by rw [hK]; exact h1', by rw [hK]; exact h2'⟩) q1
        · rw [if_neg len] at q1; exact q1.elim
  · exact q1.elim
theorem rel_ints : ∀ (ns : List Int), RelDs T ρ H (ns.map D.int) (ns.map V.int)
  | [] => .nil
  | n :: ns => .cons (.int n) (rel_ints ns)
theorem me_lrng (hc : X.calm = true) {p p2 pos pos2 : Pos} {e : Expr} {wa : EW} (hg : Gl X "list") (hm : X.mg "list" = none) (hg2 : Gl X "range") (hm2 : X.mg "range" = none) (ha : PE X e (liftE T W wa)) (hns : noStar e = true) :
    PE X (.Call (.Name "list" p) [.Call (.Name "range" p2) [e] [] pos2] [] pos) (liftE T W fun Q Qx τ h => wa (fun x h1 => okS (lrngS h1 [x]) Q) Qx τ h) := by
  refine PE.imp (pe_listRg hc hg hm (prg_1 hg2 hm2 ha (starEach_cons' hns))) fun σ H Q ⟨ρ, τ, h, Qa, Qx, R, S, q, k, hx⟩ => ?_
  refine lift1 R S hx q fun ρ1 H1 h1 d v a rd q1 => ?_
  unfold lrngS at q1
  split at q1
  · next n heq =>
    cases heq
    by_cases ok : -(2 ^ 62) ≤ n ∧ n ≤ 16777216
    · rw [if_pos ok] at q1
      cases relI rd
      refine ⟨n, rfl, ⟨by omega, by omega, by omega, by omega, by omega⟩, fun p' hn => ?_⟩
      have e1 : (rangeD 0 n.toNat) = ((List.range n.toNat).map fun i : Nat => (0 : Int) + (i : Int)).map D.int := by unfold rangeD; rw [List.map_map]; rfl
      have e2 : rgV 0 n = ((List.range n.toNat).map fun i : Nat => (0 : Int) + (i : Int)).map V.int := by unfold rgV; rw [List.map_map, Int.sub_zero]; rfl
      have rr : RelDs T ρ1 H1 (rangeD 0 n.toNat) (rgV 0 n) := by rw [e1, e2]; exact rel_ints _
      exact k _ _ _ _ _ (a.trans (.lst a.rp hn rr)) (ref_new a.rp) q1
    · rw [if_neg ok] at q1; exact q1.elim
  · exact q1.elim
end
end Mi

set_option Elab.async false
set_option linter.all false
set_option maxRecDepth 100000
set_option maxHeartbeats 1000000
/-! Mi: a text of the program as a text of Mi. -/
namespace Mi
open PySem PySem.Spec PyProof.Rows L2

structure Sc where
  N : List Str
  sc : Scope
  all : Bool
  own : Scope
def Sc.fn (S : Sc) (x : Str) : Bool := S.all || (S.own.names.lookup x == some .cell)
def Sc.ix (S : Sc) (x : Str) : Option Nat := if (x == ("__debug__" : Str)) || (x == ("__classdict__" : Str)) then none else S.N.findIdx? (· == x)
def Sc.slot (S : Sc) (x : Str) : Option Nat := match S.sc.names.lookup x with
  | some .local => S.ix x
  | some .cell => S.ix x
  | some .free => S.ix x
  | _ => none
def Sc.glob (S : Sc) (x : Str) : Bool := decide (S.sc.names.lookup x = some .globalImplicit) && !(x == ("__debug__" : Str))
def Sc.sto (S : Sc) (x : Str) : Option Nat := match S.sc.names.lookup x with
  | some .local => S.ix x
  | some .cell => if S.fn x then S.ix x else none
  | _ => none
def Sc.blk (S : Sc) (scope : Scope) : Sc := ⟨S.N, relS scope S.sc, false, scope⟩
def Sc.owns (S : Sc) (scope : Scope) : List (Str × Nat) := scope.names.filterMap fun y => match y.2 with
  | .local => (S.N.findIdx? (· == y.1)).map fun i => (y.1, i)
  | .cell => (S.N.findIdx? (· == y.1)).map fun i => (y.1, i)
  | _ => none
def opOf : Operator → Option Op2
  | .Add => some .add
  | .Sub => some .sub
  | .Mult => some .mul
  | .FloorDiv => some .div
  | .Mod => some .mod
  | .Pow => some .pow
  | _ => none
def cmpOf : CmpOp → Op2
  | .Eq => .eq
  | .NotEq => .ne
  | .Lt => .lt
  | .LtE => .le
  | .Gt => .gt
  | .GtE => .ge
  | .Is => .iss
  | .IsNot => .isnt
  | .In => .inn
  | .NotIn => .notin
def biOf (x : Str) : Option Bi :=
  if x = "len" then some .len else if x = "abs" then some .abs else if x = "int" then some .int else if x = "min" then some .min2 else if x = "max" then some .max2 else if x = "sum" then some .sum
  else if x = "any" then some .any else if x = "all" then some .all else if x = "list" then some .list else if x = "tuple" then some .tuple else if x = "dict" then some .dict else none
def tyOf (x : Str) : Option Ty := if x = "str" then some .str else if x = "int" then some .int else if x = "bool" then some .bl else if x = "tuple" then some .tup else if x = "list" then some .lst else if x = "dict" then some .dct else none
def mtOf (x : Str) : Option Mt := [Mt.append, .extend, .pop, .count, .index, .get, .setdefault, .join].find? fun m => x == Str.ofString m.name
def okBase : Expr → Bool
  | .Call _ [] [] _ => false
  | _ => true
def isTupE : Expr → Bool
  | .Tuple .. => true
  | _ => false
def esOf (f : Expr → Option E) : List Expr → Option Es
  | [] => some .nil
  | a :: r => (f a).bind fun a => (esOf f r).map fun r => .cons a r
def psOf (f : Expr → Option E) : List (Option Expr) → List Expr → Option Ps
  | [], [] => some .nil
  | some a :: r, b :: q => (f a).bind fun a => (f b).bind fun b => (psOf f r q).map fun r => .cons a b r
  | _, _ => none
def boOf (f : Expr → Option E) (op : BoolOp) : List Expr → Option E
  | [] => none
  | [a] => f a
  | a :: b :: r => (f a).bind fun a => (boOf f op (b :: r)).map fun r => match op with
    | .And => .and a r
    | .Or => .or a r
def eoOf (f : Expr → Option E) : Option Expr → Option Eo
  | none => some .no
  | some a => (f a).map .so
def ifOf (f : Expr → Option E) : List Expr → Option Eo
  | [] => some .no
  | [a] => (f a).map .so
  | _ => none
mutual
def gOf (S : Sc) : Nat → Expr → Option G
  | 0, _ => none
  | n + 1, .Name x _ => (S.sto x).map .n
  | n + 1, .Tuple es _ _ => (gsOf S n es).map .t
  | _, _ => none
def gsOf (S : Sc) : Nat → List Expr → Option Gs
  | 0, _ => none
  | n + 1, [] => some .nil
  | n + 1, a :: r => (gOf S n a).bind fun a => (gsOf S n r).map fun r => .cons a r
end
def irOf (G : Gi) (S : Sc) (f : Expr → Option E) (tg : Expr) : Expr → Option Ir
  | .Name x _ => (S.slot x).map .nm
  | .Call (.Name x p) args kws pos => if S.glob x && G.free.contains x && kws.isEmpty then
      (match args with
      | [a] => if x = "range" then (f a).map .r1 else if x = "enumerate" then (if isTupE tg then (f a).map .en else none) else (f (.Call (.Name x p) args kws pos)).map .of
      | [a, b] => if x = "range" then (f a).bind fun a => (f b).map fun b => .r2 a b else if x = "zip" then (if isTupE tg then (f a).bind fun a => (f b).map fun b => .zp a b else none) else (f (.Call (.Name x p) args kws pos)).map .of
      | _ => (f (.Call (.Name x p) args kws pos)).map .of)
    else (f (.Call (.Name x p) args kws pos)).map .of
  | .Call (.Attribute (.Name x p) m apos) [] [] cpos => match S.slot x with
    | some i => if (apos.endLine == cpos.line) = false then none else if m = "items" then (if isTupE tg then some (.its i) else none) else if m = "values" then some (.vls i) else if m = "keys" then some (.kys i) else (f (.Call (.Attribute (.Name x p) m apos) [] [] cpos)).map .of
    | none => none
  | e => (f e).map .of
def callOf (G : Gi) (S : Sc) (f : Expr → Option E) (x : Str) (args : List Expr) : Option E :=
  if S.glob x then
    match G.fns.lookup x with
    | some k => (esOf f args).map (.call k)
    | none => match G.xcs.lookup x with
      | some c => (esOf f args).map (.mk c)
      | none => if G.free.contains x then
          (if x = "isinstance" then (match args with
            | [a, .Name y _] => if S.glob y then (f a).bind fun a => (match G.cls.lookup y with
              | some c => some (.isx c a)
              | none => if G.free.contains y then (tyOf y).map fun t => .isi t a else none) else none
            | _ => none)
          else if x = "sorted" then (match args with
            | [.Call (.Name y p2) [a] [] p3] => if S.glob y && (G.free.contains y && decide (y = "set")) then (f a).map fun a => .bi .sset (.cons a .nil) else (f (.Call (.Name y p2) [a] [] p3)).map fun a => .bi .sortd (.cons a .nil)
            | [a] => (f a).map fun a => .bi .sortd (.cons a .nil)
            | _ => none)
          else if x = "list" then (match args with
            | [.Call (.Name y p2) [a] [] p3] => if S.glob y && (G.free.contains y && decide (y = "range")) then (f a).map fun a => .bi .lrng (.cons a .nil) else (f (.Call (.Name y p2) [a] [] p3)).map fun a => .bi .list (.cons a .nil)
            | [.Call (.Name y p2) [a, b] [] p3] => if S.glob y && (G.free.contains y && decide (y = "zip")) then (f a).bind fun a => (f b).map fun b => .bi .lzip (.cons a (.cons b .nil)) else (f (.Call (.Name y p2) [a, b] [] p3)).map fun a => .bi .list (.cons a .nil)
            | [a] => (f a).map fun a => .bi .list (.cons a .nil)
            | _ => none)
          else if args.isEmpty then none else (biOf x).bind fun b => (esOf f args).map (.bi b))
        else none
  else none
def eOf (G : Gi) : Nat → Sc → Expr → Option E
  | 0, _, _ => none
  | n + 1, S, x => match x with
    | .Constant .none _ _ => some (.k .non)
    | .Constant (.bool b) _ _ => some (.k (.bl b))
    | .Constant (.int i) _ _ => some (.k (.int i))
    | .Constant (.str s) _ _ => some (.k (.str s.cps.toList))
    | .Name x _ => match S.slot x with
      | some i => some (.v i)
      | none => if S.glob x then (G.cst.lookup x).map .k else none
    | .Tuple es _ _ => (esOf (eOf G n S) es).map .tup
    | .List es _ => (esOf (eOf G n S) es).map .lst
    | .Dict ks vs _ => if ks.length ≤ 15 then (psOf (eOf G n S) ks vs).map .dct else none
    | .BinOp a op b _ => (opOf op).bind fun o => (eOf G n S a).bind fun a => (eOf G n S b).map fun b => .op o a b
    | .Compare a [op] [b] _ => (eOf G n S a).bind fun a => (eOf G n S b).map fun b => .op (cmpOf op) a b
    | .Compare a [op, op'] [b, c] _ => (eOf G n S a).bind fun a => (eOf G n S b).bind fun b => (eOf G n S c).map fun c => .chain (cmpOf op) (cmpOf op') a b c
    | .UnaryOp .Not a _ => (eOf G n S a).map .not
    | .UnaryOp .USub a _ => (eOf G n S a).map .neg
    | .BoolOp op vs _ => boOf (eOf G n S) op vs
    | .IfExp c a b _ => (eOf G n S c).bind fun c => (eOf G n S a).bind fun a => (eOf G n S b).map fun b => .ite c a b
    | .Subscript a (.Slice none none (some (.UnaryOp .USub (.Constant (.int i) _ _) _)) _) _ => if i = 1 then (eOf G n S a).map .rev else none
    | .Subscript a (.Slice lo hi none _) _ => (eOf G n S a).bind fun a => (eoOf (eOf G n S) lo).bind fun lo => (eoOf (eOf G n S) hi).map fun hi => .sl a lo hi
    | .Subscript a b _ => (eOf G n S a).bind fun a => (eOf G n S b).map fun b => .op .ix a b
    | .Call (.Name x _) args [] _ => callOf G S (eOf G n S) x args
    | .Call (.Attribute o m apos) args [] cpos => if (apos.endLine == cpos.line) && okBase o && decide (args.length < 30) then (mtOf m).bind fun m => (eOf G n S o).bind fun o => (esOf (eOf G n S) args).map fun es => .mt m o es else none
    | .Attribute o f _ => if okBase o then (eOf G n S o).map fun o => .fld o f else none
    | .ListComp elt [⟨tg, it, ifs, 0⟩] scope _ => if blkC S.N S.sc scope (S.owns scope) then
        (irOf G S (eOf G n S) tg it).bind fun r => (gOf (S.blk scope) n tg).bind fun g => (ifOf (eOf G n (S.blk scope)) ifs).bind fun c => (eOf G n (S.blk scope) elt).bind fun e =>
          if g.slots.all (fun i => ((S.owns scope).map (·.2)).contains i) then some (.cp g r c e ((S.owns scope).map (·.2))) else none
      else none
    | .ListComp elt [⟨tg, it, ifs, 0⟩, ⟨tg1, it1, ifs1, 0⟩] scope _ => if blkC S.N S.sc scope (S.owns scope) then
        (irOf G S (eOf G n S) tg it).bind fun r => (gOf (S.blk scope) n tg).bind fun g => (ifOf (eOf G n (S.blk scope)) ifs).bind fun c =>
        (irOf G (S.blk scope) (eOf G n (S.blk scope)) tg1 it1).bind fun r1 => (gOf (S.blk scope) n tg1).bind fun g1 => (ifOf (eOf G n (S.blk scope)) ifs1).bind fun c1 => (eOf G n (S.blk scope) elt).bind fun e =>
          if g.slots.all (fun i => ((S.owns scope).map (·.2)).contains i) && g1.slots.all (fun i => ((S.owns scope).map (·.2)).contains i) then some (.cp2 g r c g1 r1 c1 e ((S.owns scope).map (·.2)) g1.slots) else none
      else none
    | .DictComp kx elt [⟨tg, it, ifs, 0⟩] scope _ => if blkC S.N S.sc scope (S.owns scope) then
        (irOf G S (eOf G n S) tg it).bind fun r => (gOf (S.blk scope) n tg).bind fun g => (ifOf (eOf G n (S.blk scope)) ifs).bind fun c => (eOf G n (S.blk scope) kx).bind fun kx => (eOf G n (S.blk scope) elt).bind fun e =>
          if g.slots.all (fun i => ((S.owns scope).map (·.2)).contains i) then some (.dc g r c kx e ((S.owns scope).map (·.2))) else none
      else none
    | _ => none
end Mi

set_option Elab.async false
set_option linter.all false
set_option maxRecDepth 100000
set_option maxHeartbeats 2000000
/-! Mi: the text of Mi is sound: expressions. -/
namespace Mi
open PySem PySem.Spec PyProof.Rows L2

theorem bnd {α β : Type} {o : Option α} {f : α → Option β} {b : β} (h : o.bind f = some b) : ∃ a, o = some a ∧ f a = some b := Option.bind_eq_some_iff.mp h
theorem mpd {α β : Type} {o : Option α} {f : α → β} {b : β} (h : o.map f = some b) : ∃ a, o = some a ∧ f a = b := Option.map_eq_some_iff.mp h
theorem itd {α : Type} {c : Prop} [Decidable c] {o : Option α} {b : α} (h : (if c then o else none) = some b) : c ∧ o = some b := by
  by_cases hc : c
  · rw [if_pos hc] at h; exact ⟨hc, h⟩
  · rw [if_neg hc] at h; cases h
theorem ix_ok {S : Sc} {x : Str} {i : Nat} (h : S.ix x = some i) : S.N[i]? = some x ∧ (x == ("__debug__" : Str)) = false ∧ (x == ("__classdict__" : Str)) = false := by
  unfold Sc.ix at h
  split at h
  · cases h
  · next hc =>
    simp only [Bool.or_eq_true, not_or, Bool.not_eq_true] at hc
    refine ⟨?_, hc⟩
    obtain ⟨hi, e, _⟩ := List.findIdx?_eq_some_iff_getElem.mp h
    rw [List.getElem?_eq_getElem hi, eq_of_beq e]
theorem slot_ok {S : Sc} {x : Str} {i : Nat} (h : S.slot x = some i) : S.N[i]? = some x ∧ Vis S.sc x ∧ (x == ("__debug__" : Str)) = false ∧ (x == ("__classdict__" : Str)) = false := by
  unfold Sc.slot at h
  split at h
  · next e => obtain ⟨a, b⟩ := ix_ok h; exact ⟨a, .inl e, b⟩
  · next e => obtain ⟨a, b⟩ := ix_ok h; exact ⟨a, .inr (.inl e), b⟩
  · next e => obtain ⟨a, b⟩ := ix_ok h; exact ⟨a, .inr (.inr e), b⟩
  · cases h
theorem sto_ok {S : Sc} {x : Str} {i : Nat} (h : S.sto x = some i) : S.N[i]? = some x ∧ Loc S.sc x ∧ (S.fn x = true ∨ S.sc.names.lookup x = some .local) := by
  unfold Sc.sto at h
  split at h
  · next e => obtain ⟨a, b⟩ := ix_ok h; exact ⟨a, .inl e, .inr e⟩
  · next e =>
    obtain ⟨hf, h⟩ := itd h
    obtain ⟨a, b⟩ := ix_ok h
    exact ⟨a, .inr e, .inl hf⟩
  · cases h
theorem glob_ok {S : Sc} {x : Str} (h : S.glob x = true) : S.sc.names.lookup x = some .globalImplicit ∧ (x == ("__debug__" : Str)) = false := by
  unfold Sc.glob at h
  simp only [Bool.and_eq_true, decide_eq_true_eq, Bool.not_eq_true'] at h
  exact h
theorem lookup_mem {α : Type} : ∀ {l : List (Str × α)} {x : Str} {a : α}, l.lookup x = some a → (x, a) ∈ l
  | [], _, _, h => by cases h
  | (y, b) :: l, x, a, h => by
    rw [List.lookup_cons] at h
    by_cases e : (x == y) = true
    · rw [e] at h; cases h; rw [eq_of_beq e]; exact List.mem_cons_self
    · rw [Bool.not_eq_true] at e; rw [e] at h; exact List.mem_cons_of_mem _ (lookup_mem h)
theorem free_mem {l : List Str} {x : Str} (h : l.contains x = true) : x ∈ l := by simpa using h

structure Ck (G : Gi) (T : Tab) (Z : Zi) (C : Cal) (k : Nat) (S : Sc) (X : Cx) (W : WX) : Prop where
  N : X.N = S.N
  nd : S.N.Nodup
  sc : X.env.scope = S.sc
  fn : ∀ x, S.fn x = true → X.fn x = true
  K : X.K = T.K
  calm : X.calm = true
  room : Room k X.A
  k3 : 3 ≤ k
  tk : Takes X W
  fa : Facts G T Z C X.prog X.w X.mg X.base k
section
variable {X : Cx} {T : Tab} {W : WX} {Z : Zi} {C : Cal} {G : Gi} {k : Nat} {S : Sc}
theorem Ck.hN (c : Ck G T Z C k S X W) : X.N.Nodup := by rw [c.N]; exact c.nd
theorem Ck.un (c : Ck G T Z C k S X W) : X.A.units + 200 < cLine := by have := c.room.un; omega
theorem Ck.at_ (c : Ck G T Z C k S X W) {x : Str} {i : Nat} (h : S.N[i]? = some x) : X.N[i]? = some x := by rw [c.N]; exact h
theorem Ck.gl (c : Ck G T Z C k S X W) {x : Str} (h : S.sc.names.lookup x = some .globalImplicit) : Gl X x := by
  show X.env.scope.names.lookup x = _
  rw [c.sc]; exact h
theorem Ck.blk (c : Ck G T Z C k S X W) (s : Shared) (H : Hp) (scope : Scope) (Cc : Addr) (cl : List (Str × Addr)) (fp : List Addr) : Ck G T Z C k (S.blk scope) (X.blk s H scope (compEnvC scope cl Cc X.env) fp) W0 where
  N := c.N
  nd := c.nd
  sc := by
    show relS scope X.env.scope = relS scope S.sc
    rw [c.sc]
  fn := fun x h => by
    unfold Sc.fn Sc.blk at h
    simpa using h
  K := c.K
  calm := c.calm
  room := c.room
  k3 := c.k3
  tk := takes0
  fa := c.fa
theorem opOf_ok (c : Ck G T Z C k S X W) {op : Operator} {o : Op2} (h : opOf op = some o) : OpR X (binaryOp op) (r2 T o.sem) := by
  cases op <;> cases h
  · exact op_addS c.K
  · exact op_subS
  · exact op_mulS c.K
  · exact op_modS
  · exact op_powS
  · exact op_divS
theorem cmpOf_ok (c : Ck G T Z C k S X W) (op : CmpOp) : OpR X (compareOp op) (r2 T (cmpOf op).sem) := by
  cases op
  · exact op_eqS c.K c.un
  · exact op_neS c.K c.un
  · exact op_ltS
  · exact op_leS
  · exact op_gtS
  · exact op_geS
  · exact op_isS
  · exact op_isntS
  · exact op_inS c.K c.un
  · exact op_notInS c.K c.un
theorem cmp_blf (op : CmpOp) : Blf (cmpOf op).sem := by
  intro h x y z h' e
  cases op
  · obtain ⟨b, _, e⟩ := mpd e; cases e; exact ⟨_, rfl⟩
  · obtain ⟨b, _, e⟩ := mpd e; cases e; exact ⟨_, rfl⟩
  · replace e : ltS h x y = some (z, h') := e
    unfold ltS at e
    split at e <;> cases e <;> exact ⟨_, rfl⟩
  · replace e : leS h x y = some (z, h') := e
    unfold leS at e
    split at e <;> cases e <;> exact ⟨_, rfl⟩
  · replace e : gtS h x y = some (z, h') := e
    unfold gtS at e
    split at e <;> cases e <;> exact ⟨_, rfl⟩
  · replace e : geS h x y = some (z, h') := e
    unfold geS at e
    split at e <;> cases e <;> exact ⟨_, rfl⟩
  · replace e : isS h x y = some (z, h') := e
    unfold isS at e
    repeat' split at e
    all_goals first | (cases e; exact ⟨_, rfl⟩) | cases e
  · replace e : isntS h x y = some (z, h') := e
    unfold isntS at e
    repeat' split at e
    all_goals first | (cases e; exact ⟨_, rfl⟩) | cases e
  · obtain ⟨b, _, e⟩ := mpd e; cases e; exact ⟨_, rfl⟩
  · obtain ⟨b, _, e⟩ := mpd e; cases e; exact ⟨_, rfl⟩
/-- a built-in's call -/
theorem me_biOf (c : Ck G T Z C k S X W) {x : Str} {b : Bi} {p pos : Pos} {e : Expr} {es : List Expr} {ws : AW} (h : biOf x = some b) (hg : Gl X x) (hm : X.mg x = none) (hn : x ≠ "__name__") (hdb : (x == ("__debug__" : Str)) = false)
    (ha : PA X (e :: es) (liftA T W ws)) (hns : ∀ y ∈ e :: es, noStar y = true) : PE X (.Call (.Name x p) (e :: es) [] pos) (liftE T W fun Q Qx τ h => ws (fun ds h' => okS (b.sem h' ds) Q) Qx τ h) := by
  unfold biOf at h
  split at h
  · next e => subst e; cases h; exact me_bi (cr_lenS c.K) hg hm rfl hn hdb ha hns
  split at h
  · next e => subst e; cases h; exact me_bi cr_absS hg hm rfl hn hdb ha hns
  split at h
  · next e => subst e; cases h; exact me_ty cr_intS hg hm rfl hn hdb ha hns
  split at h
  · next e => subst e; cases h; exact me_bi (cr_min2S c.calm) hg hm rfl hn hdb ha hns
  split at h
  · next e => subst e; cases h; exact me_bi (cr_max2S c.calm) hg hm rfl hn hdb ha hns
  split at h
  · next e => subst e; cases h; exact me_bi (cr_sumS c.calm c.K) hg hm rfl hn hdb ha hns
  split at h
  · next e => subst e; cases h; exact me_bi (cr_anyS c.calm c.K) hg hm rfl hn hdb ha hns
  split at h
  · next e => subst e; cases h; exact me_bi (cr_allS c.calm c.K) hg hm rfl hn hdb ha hns
  split at h
  · next e => subst e; cases h; exact me_ty (cr_listS c.K c.calm) hg hm rfl hn hdb ha hns
  split at h
  · next e => subst e; cases h; exact me_ty (cr_tupleS c.K) hg hm rfl hn hdb ha hns
  split at h
  · next e => subst e; cases h; exact me_ty (cr_dictS c.K c.calm) hg hm rfl hn hdb ha hns
  · cases h
theorem tyOf_ok {y : Str} {t : Ty} (h : tyOf y = some t) : bootBuiltins y = some (.type t.name) := by
  unfold tyOf at h
  split at h
  · next e => subst e; cases h; rfl
  split at h
  · next e => subst e; cases h; rfl
  split at h
  · next e => subst e; cases h; rfl
  split at h
  · next e => subst e; cases h; rfl
  split at h
  · next e => subst e; cases h; rfl
  split at h
  · next e => subst e; cases h; rfl
  · cases h
theorem mtOf_ok {x : Str} {m : Mt} (h : mtOf x = some m) : x = Str.ofString m.name := by
  unfold mtOf at h
  have := List.find?_some h
  exact eq_of_beq this
theorem base_ok {o : Expr} (h : okBase o = true) (f : Str) (env : Env) (w : Sem Value) : attributeBase o f env w = w := by
  cases o with
  | Call fn args kws pos =>
    cases args with
    | cons _ _ => cases fn <;> rfl
    | nil =>
      cases kws with
      | cons _ _ => cases fn <;> rfl
      | nil => cases h
  | _ => rfl
end
end Mi

set_option Elab.async false
set_option linter.all false
set_option maxRecDepth 100000
set_option maxHeartbeats 2000000
/-! Mi: the text of Mi is sound: expressions. -/
namespace Mi
open PySem PySem.Spec PyProof.Rows L2
section
variable {X : Cx} {T : Tab} {W : WX} {Z : Zi} {C : Cal} {G : Gi} {k : Nat} {S : Sc}
theorem eOf_noStar {n : Nat} {x : Expr} {e : E} (h : eOf G n S x = some e) : noStar x = true := by
  cases n with
  | zero => cases h
  | succ n => cases x <;> first | rfl | cases h
theorem eOf_noSlice {n : Nat} {x : Expr} {e : E} (h : eOf G n S x = some e) : PlainIx x := by
  cases n with
  | zero => cases h
  | succ n => cases x <;> first | (intro o i; rfl) | cases h
theorem eOf_noSet {n : Nat} {x : Expr} {e : E} (h : eOf G n S x = some e) (op : CmpOp) : behindInMarks op x = false := by
  cases n with
  | zero => cases h
  | succ n => cases x <;> first | rfl | cases h
theorem eOf_fold {n : Nat} {x : Expr} {e : E} (h : eOf G n S x = some e) (env : Env) (v : Value) : foldedSetIterable x env v = pure v := by
  cases n with
  | zero => cases h
  | succ n => cases x <;> first | rfl | cases h
abbrev EOk (X : Cx) (T : Tab) (W : WX) (Z : Zi) (C : Cal) (f : Expr → Option E) : Prop := ∀ x e, f x = some e → PE X x (liftE T W (wE Z C e)) ∧ PT X x (liftB T W (tst (wE Z C e)))
theorem esOf_ok {f : Expr → Option E} (F : EOk X T W Z C f) (N : ∀ x e, f x = some e → noStar x = true) : ∀ {xs : List Expr} {es : Es}, esOf f xs = some es → PA X xs (liftA T W (wEs Z C es)) ∧ (∀ y ∈ xs, noStar y = true) ∧ (xs = [] → ∀ Q Qx τ h, wEs Z C es Q Qx τ h → Q [] h)
  | [], es, h => by cases h; exact ⟨ma_nil, fun _ hy => (by cases hy), fun _ _ _ _ _ q => q⟩
  | x :: xs, es, h => by
    obtain ⟨a, ha, h⟩ := bnd h
    obtain ⟨r, hr, rfl⟩ := mpd h
    obtain ⟨p, q, _⟩ := esOf_ok F N hr
    refine ⟨ma_cons (F x a ha).1 p (starEach_cons' (N x a ha)), fun y hy => ?_, fun e => (by cases e)⟩
    rcases List.mem_cons.mp hy with rfl | hy
    · exact N _ a ha
    · exact q y hy
theorem psOf_ok {f : Expr → Option E} (F : EOk X T W Z C f) {pos : Pos} : ∀ {ks : List (Option Expr)} {vs : List Expr} {ps : Ps}, psOf f ks vs = some ps → MPs X T W pos ks vs (wPs Z C ps) ∧ (ks = [] → ∀ Q Qx τ h, wPs Z C ps Q Qx τ h → Q [] h)
  | [], [], ps, h => by cases h; exact ⟨mp_nil, fun _ _ _ _ _ q => q⟩
  | [], _ :: _, ps, h => by cases h
  | none :: _, _, ps, h => by cases h
  | some _ :: _, [], ps, h => by cases h
  | some a :: ks, b :: vs, ps, h => by
    obtain ⟨a', ha, h⟩ := bnd h
    obtain ⟨b', hb, h⟩ := bnd h
    obtain ⟨r, hr, rfl⟩ := mpd h
    exact ⟨mp_cons (F _ _ ha).1 (F _ _ hb).1 (psOf_ok F hr).1, fun e => (by cases e)⟩
theorem boOf_ok (hK : X.K = T.K) {f : Expr → Option E} (F : EOk X T W Z C f) {op : BoolOp} {pos : Pos} : ∀ {vs : List Expr} {e : E}, boOf f op vs = some e → PE X (.BoolOp op vs pos) (liftE T W (wE Z C e)) ∧ PW X (.BoolOp op vs pos) (liftB T W (tst (wE Z C e)))
  | [], e, h => by cases h
  | [a], e, h => by
    obtain ⟨p, q⟩ := F a e h
    refine ⟨pe_one p, ?_⟩
    cases op
    · exact pw_and1 q
    · exact pw_or1 q
  | a :: b :: r, e, h => by
    obtain ⟨a', ha, h⟩ := bnd h
    obtain ⟨r', hr, rfl⟩ := mpd h
    obtain ⟨p, q⟩ := F a a' ha
    obtain ⟨p2, q2⟩ := boOf_ok hK F hr
    cases op
    · exact ⟨me_and hK p p2, mw_and q q2⟩
    · exact ⟨me_or hK p p2, mw_or q q2⟩
theorem eoOf_ok {f : Expr → Option E} (F : EOk X T W Z C f) : ∀ {o : Option Expr} {e : Eo}, eoOf f o = some e → PO X o (liftO T W (wO Z C e))
  | none, e, h => by cases h; exact mo_none
  | some a, e, h => by
    obtain ⟨a', ha, rfl⟩ := mpd h
    exact mo_some (F a a' ha).1
theorem ifOf_ok {f : Expr → Option E} (F : EOk X T W Z C f) : ∀ {o : List Expr} {e : Eo}, ifOf f o = some e → PTs X o (liftB T W (wT Z C e))
  | [], e, h => by cases h; exact mts_nil
  | [a], e, h => by
    obtain ⟨a', ha, rfl⟩ := mpd h
    exact mts_one (F a a' ha).2
  | _ :: _ :: _, e, h => by cases h
mutual
theorem gOf_ok (c : Ck G T Z C k S X W) : ∀ {n : Nat} {x : Expr} {g : Mi.G}, gOf S n x = some g → PG X x (liftG T g.slots fun h d => gAs h g d) ∧ noStar x = true
  | 0, x, g, h => by cases h
  | n + 1, .Name x _, g, h => by
    obtain ⟨i, hi, rfl⟩ := mpd h
    obtain ⟨a, b, d⟩ := sto_ok hi
    refine ⟨mg_n c.hN (c.at_ a) (by rw [c.sc]; exact b) ?_, rfl⟩
    rcases d with d | d
    · exact .inl (c.fn _ d)
    · exact .inr (by rw [c.sc]; exact d)
  | n + 1, .Tuple es _ _, g, h => by
    obtain ⟨gs, hg, rfl⟩ := mpd h
    obtain ⟨p, q, l⟩ := gsOf_ok c hg
    exact ⟨mg_t c.K c.calm p q l, rfl⟩
  | n + 1, .BoolOp .., g, h | n + 1, .NamedExpr .., g, h | n + 1, .BinOp .., g, h | n + 1, .UnaryOp .., g, h | n + 1, .Lambda .., g, h | n + 1, .IfExp .., g, h | n + 1, .Dict .., g, h | n + 1, .Set .., g, h
  | n + 1, .ListComp .., g, h | n + 1, .SetComp .., g, h | n + 1, .DictComp .., g, h | n + 1, .GeneratorExp .., g, h | n + 1, .Await .., g, h | n + 1, .Yield .., g, h | n + 1, .YieldFrom .., g, h | n + 1, .Compare .., g, h
  | n + 1, .Call .., g, h | n + 1, .FormattedValue .., g, h | n + 1, .JoinedStr .., g, h | n + 1, .Constant .., g, h | n + 1, .Attribute .., g, h | n + 1, .Subscript .., g, h | n + 1, .Starred .., g, h | n + 1, .List .., g, h | n + 1, .Slice .., g, h => by cases h
theorem gsOf_ok (c : Ck G T Z C k S X W) : ∀ {n : Nat} {xs : List Expr} {gs : Gs}, gsOf S n xs = some gs → PGs X xs (liftGs T gs.slots fun h ds => gAss h gs ds) ∧ (∀ y ∈ xs, noStar y = true) ∧ xs.length = gs.len
  | 0, xs, gs, h => by cases h
  | n + 1, [], gs, h => by cases h; exact ⟨mgs_nil, fun _ hy => (by cases hy), rfl⟩
  | n + 1, x :: xs, gs, h => by
    obtain ⟨a, ha, h⟩ := bnd h
    obtain ⟨r, hr, rfl⟩ := mpd h
    obtain ⟨p, q⟩ := gOf_ok c ha
    obtain ⟨p2, q2, l⟩ := gsOf_ok c hr
    refine ⟨mgs_cons p p2 q, fun y hy => ?_, by rw [List.length_cons, l]; rfl⟩
    rcases List.mem_cons.mp hy with rfl | hy
    · exact q
    · exact q2 y hy
end
theorem isTupE_ok {tg : Expr} (h : isTupE tg = true) : ∃ es n p, tg = .Tuple es n p := by
  cases tg <;> first | exact ⟨_, _, _, rfl⟩ | cases h
theorem irOf_ok (c : Ck G T Z C k S X W) {n : Nat} (F : EOk X T W Z C (eOf G n S)) {tg x : Expr} {r : Ir} (h : irOf G S (eOf G n S) tg x = some r) : PI X tg x (liftI T W (wI Z C r)) ∧ ∀ env v, foldedSetIterable x env v = pure v := by
  have gen : ∀ {x : Expr} {r : Ir}, (eOf G n S x).map Ir.of = some r → PI X tg x (liftI T W (wI Z C r)) ∧ ∀ env v, foldedSetIterable x env v = pure v := fun {x r} h => by
    obtain ⟨e, he, rfl⟩ := mpd h
    exact ⟨mi_of c.K (F x e he).1, fun env v => eOf_fold he env v⟩
  unfold irOf at h
  split at h
  · next x p =>
    obtain ⟨i, hi, rfl⟩ := mpd h
    obtain ⟨a, b, d, d2⟩ := slot_ok hi
    exact ⟨mi_nm c.K (c.at_ a) (by rw [c.sc]; exact b) d d2, fun _ _ => rfl⟩
  · next x p args kws pos =>
    split at h
    · next hc =>
      simp only [Bool.and_eq_true] at hc
      obtain ⟨⟨h1, h2⟩, h3⟩ := hc
      have hg := c.gl (glob_ok h1).1
      have hm := (c.fa.fre _ (free_mem h2)).1
      have hk : kws = [] := by simpa using h3
      subst hk
      split at h
      · next a =>
        split at h
        · next ex =>
          subst ex
          obtain ⟨a', ha, rfl⟩ := mpd h
          exact ⟨mi_r1 hg hm (F _ _ ha).1 (eOf_noStar ha), fun _ _ => rfl⟩
        split at h
        · next ex =>
          subst ex
          obtain ⟨ht, h⟩ := itd h
          obtain ⟨es, m, q, rfl⟩ := isTupE_ok ht
          obtain ⟨a', ha, rfl⟩ := mpd h
          exact ⟨mi_en c.K hg hm (F _ _ ha).1 (eOf_noStar ha), fun _ _ => rfl⟩
        · exact gen h
      · next a b =>
        split at h
        · next ex =>
          subst ex
          obtain ⟨a', ha, h⟩ := bnd h
          obtain ⟨b', hb, rfl⟩ := mpd h
          exact ⟨mi_r2 hg hm (F _ _ ha).1 (F _ _ hb).1 (eOf_noStar ha) (eOf_noStar hb), fun _ _ => rfl⟩
        split at h
        · next ex =>
          subst ex
          obtain ⟨ht, h⟩ := itd h
          obtain ⟨es, m, q, rfl⟩ := isTupE_ok ht
          obtain ⟨a', ha, h⟩ := bnd h
          obtain ⟨b', hb, rfl⟩ := mpd h
          exact ⟨mi_zp c.K hg hm (F _ _ ha).1 (F _ _ hb).1 (eOf_noStar ha) (eOf_noStar hb), fun _ _ => rfl⟩
        · exact gen h
      · exact gen h
    · exact gen h
  · next x p m apos cpos =>
    split at h
    · next i hi =>
      obtain ⟨a, b, d, d2⟩ := slot_ok hi
      split at h
      · cases h
      · next hl =>
        have hl : (apos.endLine == cpos.line) = true := by simpa using hl
        split at h
        · next em =>
          subst em
          obtain ⟨ht, h⟩ := itd h
          cases h
          obtain ⟨es, m, q, rfl⟩ := isTupE_ok ht
          exact ⟨mi_its (c.at_ a) (by rw [c.sc]; exact b) d d2 hl, fun _ _ => rfl⟩
        split at h
        · next em =>
          subst em
          cases h
          exact ⟨mi_vls (c.at_ a) (by rw [c.sc]; exact b) d d2 hl, fun _ _ => rfl⟩
        split at h
        · next em =>
          subst em
          cases h
          exact ⟨mi_kys (c.at_ a) (by rw [c.sc]; exact b) d d2 hl, fun _ _ => rfl⟩
        · exact gen h
    · cases h
  · exact gen h
end
end Mi

set_option Elab.async false
set_option linter.all false
set_option maxRecDepth 100000
set_option maxHeartbeats 4000000
/-! Mi: the text of Mi is sound: expressions, together. -/
namespace Mi
open PySem PySem.Spec PyProof.Rows L2
section
variable {T : Tab} {Z : Zi} {C : Cal} {G : Gi} {k : Nat}
theorem pa1 {X : Cx} {W : WX} {a : Expr} {a' : E} (p : PE X a (liftE T W (wE Z C a'))) (h : noStar a = true) : PA X [a] (liftA T W (wEs Z C (.cons a' .nil))) := ma_cons p ma_nil (starEach_cons' h)
theorem pa2 {X : Cx} {W : WX} {a b : Expr} {a' b' : E} (p : PE X a (liftE T W (wE Z C a'))) (q : PE X b (liftE T W (wE Z C b'))) (h : noStar a = true) (h2 : noStar b = true) : PA X [a, b] (liftA T W (wEs Z C (.cons a' (.cons b' .nil)))) := ma_cons p (pa1 q h2) (starEach_cons' h)
theorem callOf_ok {X : Cx} {W : WX} {S : Sc} (c : Ck G T Z C k S X W) {n : Nat} (F : EOk X T W Z C (eOf G n S)) {x : Str} {args : List Expr} {e : E} {p pos : Pos} (h : callOf G S (eOf G n S) x args = some e) : PE X (.Call (.Name x p) args [] pos) (liftE T W (wE Z C e)) := by
  have N : ∀ x e, eOf G n S x = some e → noStar x = true := fun x e h => eOf_noStar h
  unfold callOf at h
  obtain ⟨hg0, h⟩ := itd h
  obtain ⟨hg1, hdb⟩ := glob_ok hg0
  have hg := c.gl hg1
  split at h
  · next f hf =>
    obtain ⟨es, he, rfl⟩ := mpd h
    obtain ⟨p1, p2, p3⟩ := esOf_ok F N he
    obtain ⟨fa, fd, ps, hm, hk, hb, hl, hF⟩ := c.fa.fns x f (lookup_mem hf)
    rw [← c.K] at hk hb hF
    exact me_call c.tk hF c.room hg hm hk hb hl p1 hdb p2 p3
  split at h
  · next cc hf =>
    obtain ⟨es, he, rfl⟩ := mpd h
    obtain ⟨p1, p2, p3⟩ := esOf_ok F N he
    obtain ⟨hm, hk, s1, s2, mk⟩ := c.fa.xcs x cc (lookup_mem hf)
    have r : Raises X (.ref (T.xa cc)) := raises_own (by rw [c.K]; exact s1) (by rw [c.K]; exact s2)
    cases mk with
    | plain Fx q m => exact me_mk (mm_plain Fx (by rw [c.K]; exact q) m hm (by rw [c.K]; exact hk) r hg p1 hdb p2 p3)
    | own O iC tI F1 hk2 hb m =>
      exact me_mk (mm_own (by rw [c.K]; exact O) (by rw [c.K]; exact iC) (by rw [c.K]; exact tI) (by rw [c.K]; exact F1) (c.room.mono (by have := c.k3; omega)) (by rw [c.K]; exact hb) m hg hm p1 hdb p2 p3)
  split at h
  · next hfr =>
    obtain ⟨hm, hnm⟩ := c.fa.fre x (free_mem hfr)
    by_cases ex : x = "isinstance"
    · rw [if_pos ex] at h
      have hh := h
      clear h
      subst ex
      split at hh
      · next a y p2 =>
        obtain ⟨hy0, h⟩ := itd hh
        obtain ⟨hy1, hyd⟩ := glob_ok hy0
        have hgy := c.gl hy1
        obtain ⟨a', ha, h⟩ := bnd h
        cases hcl : G.cls.lookup y with
        | some cc =>
          rw [hcl] at h
          cases h
          obtain ⟨cv, v, hname, rv, uniq, hN, hE⟩ := c.fa.cls y cc (lookup_mem hcl)
          have hpe : PE X (.Name y p2) (tC v) := by
            rcases hname with hmy | ⟨hmy, hb, hn⟩
            · exact pe_glob hgy hmy rv hyd
            · exact pe_bltn hgy hmy hb rv hn hyd
          exact me_is (f := isxP Z cc) (is_exc c.K hN (fun e he => (hE e he).1) fun e he => (c.fa.own e he).1) hg hm (F _ _ ha).1 hpe uniq (eOf_noStar ha)
        | none =>
          rw [hcl] at h
          obtain ⟨hfy, h⟩ := itd h
          obtain ⟨t, ht, rfl⟩ := mpd h
          obtain ⟨hmy, hn⟩ := c.fa.fre y (free_mem hfy)
          have hpe : PE X (.Name y p2) (tC (.ty t.name)) := pe_bltn hgy hmy (tyOf_ok ht) rfl hn hyd
          exact me_is (f := fun h d Q => okS (isiS t h d) Q) (is_ty t) hg hm (F _ _ ha).1 hpe (fun u hu => hu) (eOf_noStar ha)
      · cases hh
    · rw [if_neg ex] at h
      by_cases es : x = "sorted"
      · rw [if_pos es] at h
        have hh := h
        clear h
        subst es
        have one : ∀ {a : Expr} {e : E}, ((eOf G n S a).map fun a => E.bi .sortd (.cons a .nil)) = some e → PE X (.Call (.Name "sorted" p) [a] [] pos) (liftE T W (wE Z C e)) := fun {a e} h3 => by
          obtain ⟨a', ha, rfl⟩ := mpd h3
          exact me_bi (cr_sortdS c.calm) hg hm rfl (by decide) (by decide) (pa1 (F _ _ ha).1 (eOf_noStar ha)) (by simp [eOf_noStar ha])
        split at hh
        · next y p2 a p3 =>
          split at hh
          · next hy0 =>
            rw [Bool.and_eq_true, Bool.and_eq_true, decide_eq_true_eq] at hy0
            obtain ⟨hy1, hy2, ey⟩ := hy0
            subst ey
            obtain ⟨hy3, hyd⟩ := glob_ok hy1
            obtain ⟨a', ha, rfl⟩ := mpd hh
            exact me_sset c.calm c.K hg hm (c.gl hy3) (c.fa.fre _ (free_mem hy2)).1 (F _ _ ha).1 (eOf_noStar ha)
          · exact one hh
        · exact one hh
        · cases hh
      rw [if_neg es] at h
      by_cases el : x = "list"
      · rw [if_pos el] at h
        have hh := h
        clear h
        subst el
        have one : ∀ {a : Expr} {e : E}, ((eOf G n S a).map fun a => E.bi .list (.cons a .nil)) = some e → PE X (.Call (.Name "list" p) [a] [] pos) (liftE T W (wE Z C e)) := fun {a e} h3 => by
          obtain ⟨a', ha, rfl⟩ := mpd h3
          exact me_ty (cr_listS c.K c.calm) hg hm rfl (by decide) (by decide) (pa1 (F _ _ ha).1 (eOf_noStar ha)) (by simp [eOf_noStar ha])
        split at hh
        · next y p2 a p3 =>
          split at hh
          · next hy0 =>
            rw [Bool.and_eq_true, Bool.and_eq_true, decide_eq_true_eq] at hy0
            obtain ⟨hy1, hy2, ey⟩ := hy0
            subst ey
            obtain ⟨hy3, hyd⟩ := glob_ok hy1
            obtain ⟨a', ha, rfl⟩ := mpd hh
            exact me_lrng c.calm hg hm (c.gl hy3) (c.fa.fre _ (free_mem hy2)).1 (F _ _ ha).1 (eOf_noStar ha)
          · exact one hh
        · next y p2 a b p3 =>
          split at hh
          · next hy0 =>
            rw [Bool.and_eq_true, Bool.and_eq_true, decide_eq_true_eq] at hy0
            obtain ⟨hy1, hy2, ey⟩ := hy0
            subst ey
            obtain ⟨hy3, hyd⟩ := glob_ok hy1
            obtain ⟨a', ha, hh2⟩ := bnd hh
            obtain ⟨b', hb, rfl⟩ := mpd hh2
            exact me_lzip c.calm c.K hg hm (c.gl hy3) (c.fa.fre _ (free_mem hy2)).1 (pa2 (F _ _ ha).1 (F _ _ hb).1 (eOf_noStar ha) (eOf_noStar hb)) (by simp [eOf_noStar ha, eOf_noStar hb])
          · exact one hh
        · exact one hh
        · cases hh
      rw [if_neg el] at h
      by_cases hne : args.isEmpty = true
      · rw [if_pos hne] at h; cases h
      · rw [if_neg hne] at h
        obtain ⟨b, hb, h⟩ := bnd h
        obtain ⟨es, he, rfl⟩ := mpd h
        obtain ⟨p1, p2, p3⟩ := esOf_ok F N he
        cases args with
        | nil => exact absurd rfl hne
        | cons a args => exact me_biOf c hb hg hm hnm hdb p1 p2
  · cases h
theorem cp_eq (C : Cal) (g : Mi.G) (r : Ir) (c : Eo) (e : E) (own : List Nat) : wE Z C (.cp g r c e own) = wLk r (wLc (wI Z C r) g (wT Z C c) (wE Z C e) own) := by
  funext Q Qx τ h; rfl
theorem dc_eq (C : Cal) (g : Mi.G) (r : Ir) (c : Eo) (kx e : E) (own : List Nat) : wE Z C (.dc g r c kx e own) = wLk r (wDc (wI Z C r) g (wT Z C c) (wE Z C kx) (wE Z C e) own) := by
  funext Q Qx τ h; rfl
theorem cp2_eq (C : Cal) (g : Mi.G) (r : Ir) (c : Eo) (g1 : Mi.G) (r1 : Ir) (c1 : Eo) (e : E) (own own1 : List Nat) : wE Z C (.cp2 g r c g1 r1 c1 e own own1) = wLc2 (wI Z C r) g (wT Z C c) (wI Z C r1) g1 (wT Z C c1) (wE Z C e) own own1 := by
  funext Q Qx τ h; rfl
theorem slots_ok {s own : List Nat} (h : s.all (fun i => own.contains i) = true) : ∀ i ∈ s, i ∈ own := fun i hi => by
  have := List.all_eq_true.mp h i hi
  simpa using this
/-- the pieces of a comprehension -/
structure LcP (X : Cx) (T : Tab) (W : WX) (tg iter : Expr) (ifs : List Expr) (scope : Scope) (own : List (Str × Nat)) (wi : IW) (g : Mi.G) (wt : BW) : Prop where
  ok : BlkOk X.N X.env.scope scope own
  hi : PI X tg iter (liftI T W wi)
  hs : ∀ env x, foldedSetIterable iter env x = pure x
  hg : ∀ (s : Shared) (H : Hp) (C : Addr) (cl : List (Str × Addr)) (fp : List Addr), PG (X.blk s H scope (compEnvC scope cl C X.env) fp) tg (liftG T g.slots fun h d => gAs h g d)
  ht : ∀ (s : Shared) (H : Hp) (C : Addr) (cl : List (Str × Addr)) (fp : List Addr), PTs (X.blk s H scope (compEnvC scope cl C X.env) fp) ifs (liftB T W0 wt)
  sl : ∀ i ∈ g.slots, i ∈ own.map (·.2)
theorem eOf_ok : ∀ (n : Nat) (S : Sc) (X : Cx) (W : WX), Ck G T Z C k S X W → EOk X T W Z C (eOf G n S)
  | 0, S, X, W, c, x, e, h => by cases h
  | n + 1, S, X, W, c, x, e, h => by
    have F := eOf_ok n S X W c
    have N : ∀ x e, eOf G n S x = some e → noStar x = true := fun x e h => eOf_noStar h
    have tr : ∀ {x : Expr} {w : EW}, PE X x (liftE T W w) → (∀ whole, isTrue x X.env whole = (do let v ← whole; standAt x.pos; holding [v] (truthy v))) → PE X x (liftE T W w) ∧ PT X x (liftB T W (tst w)) := fun p he => ⟨p, mt_true c.K p he⟩
    unfold eOf at h
    split at h
    · cases h; exact tr (me_k pe_non fun _ _ => .non) fun _ => rfl
    · next b _ _ => cases h; exact tr (me_k pe_bl fun _ _ => .bl b) fun _ => rfl
    · next i _ _ => cases h; exact tr (me_k pe_int fun _ _ => .int i) fun _ => rfl
    · next s _ _ => cases h; exact tr (me_k pe_str fun _ _ => .str rfl) fun _ => rfl
    · next x p =>
      split at h
      · next i hi =>
        cases h
        obtain ⟨a, b, d, d2⟩ := slot_ok hi
        exact tr (me_v (c.at_ a) (by rw [c.sc]; exact b) d d2) fun _ => rfl
      · obtain ⟨hg0, h⟩ := itd h
        obtain ⟨hg1, hdb⟩ := glob_ok hg0
        obtain ⟨d, hd, rfl⟩ := mpd h
        obtain ⟨u, v, hm, rv, rd⟩ := c.fa.cst _ d (lookup_mem hd)
        exact tr (me_k (pe_glob (c.gl hg1) hm rv hdb) rd) fun _ => rfl
    · obtain ⟨es, he, rfl⟩ := mpd h
      exact tr (me_tup (esOf_ok F N he).1) fun _ => rfl
    · obtain ⟨es, he, rfl⟩ := mpd h
      exact tr (me_lst (esOf_ok F N he).1) fun _ => rfl
    · obtain ⟨hz, h⟩ := itd h
      obtain ⟨ps, he, rfl⟩ := mpd h
      obtain ⟨p, q⟩ := psOf_ok F he
      exact tr (me_dct p q hz) fun _ => rfl
    · obtain ⟨o, ho, h⟩ := bnd h
      obtain ⟨a, ha, h⟩ := bnd h
      obtain ⟨b, hb, rfl⟩ := mpd h
      exact tr (me_op (opOf_ok c ho) (F _ _ ha).1 (F _ _ hb).1) fun _ => rfl
    · obtain ⟨a, ha, h⟩ := bnd h
      obtain ⟨b, hb, rfl⟩ := mpd h
      exact ⟨me_cmp (cmpOf_ok c _) (F _ _ ha).1 (F _ _ hb).1 (eOf_noSet hb _), mt_cmp c.K (cmpOf_ok c _) (F _ _ ha).1 (F _ _ hb).1 (eOf_noSet hb _)⟩
    · obtain ⟨a, ha, h⟩ := bnd h
      obtain ⟨b, hb, h⟩ := bnd h
      obtain ⟨cc, hc, rfl⟩ := mpd h
      exact ⟨me_chain (cmpOf_ok c _) (cmpOf_ok c _) (F _ _ ha).1 (F _ _ hb).1 (F _ _ hc).1 (eOf_noSet hc _), mt_chain c.K (cmp_blf _) (cmpOf_ok c _) (cmpOf_ok c _) (F _ _ ha).1 (F _ _ hb).1 (F _ _ hc).1 (eOf_noSet hc _)⟩
    · obtain ⟨a, ha, rfl⟩ := mpd h
      exact ⟨me_not c.K (F _ _ ha).1, mt_not (F _ _ ha).2⟩
    · obtain ⟨a, ha, rfl⟩ := mpd h
      exact tr (me_neg (F _ _ ha).1) fun _ => rfl
    · obtain ⟨p, q⟩ := boOf_ok c.K F h
      exact ⟨p, q.pt⟩
    · obtain ⟨cc, hc, h⟩ := bnd h
      obtain ⟨a, ha, h⟩ := bnd h
      obtain ⟨b, hb, rfl⟩ := mpd h
      exact ⟨me_ite (F _ _ hc).2 (F _ _ ha).1 (F _ _ hb).1, mt_ite (F _ _ hc).2 (F _ _ ha).2 (F _ _ hb).2⟩
    · obtain ⟨hi, h⟩ := itd h
      subst hi
      obtain ⟨a, ha, rfl⟩ := mpd h
      exact tr (me_rev c.K (F _ _ ha).1) fun _ => rfl
    · obtain ⟨a, ha, h⟩ := bnd h
      obtain ⟨lo, hl, h⟩ := bnd h
      obtain ⟨hi, hh, rfl⟩ := mpd h
      exact tr (me_sl c.K (F _ _ ha).1 (eoOf_ok F hl) (eoOf_ok F hh)) fun _ => rfl
    · obtain ⟨a, ha, h⟩ := bnd h
      obtain ⟨b, hb, rfl⟩ := mpd h
      exact tr (me_ix (ix_ixS c.K c.un) (F _ _ ha).1 (F _ _ hb).1 (eOf_noSlice hb)) fun _ => rfl
    · exact tr (callOf_ok c F h) fun _ => rfl
    · obtain ⟨hc, h⟩ := itd h
      simp only [Bool.and_eq_true, decide_eq_true_eq] at hc
      obtain ⟨⟨h1, h2⟩, h3⟩ := hc
      obtain ⟨m, hm, h⟩ := bnd h
      obtain ⟨o, ho, h⟩ := bnd h
      obtain ⟨es, he, rfl⟩ := mpd h
      obtain ⟨p1, p2, p3⟩ := esOf_ok F N he
      have em := mtOf_ok hm
      subst em
      exact tr (me_mt c.K c.un (F _ _ ho).1 p1 (base_ok h2 _ _ _) h1 h3 p2 p3) fun _ => rfl
    · obtain ⟨hb, h⟩ := itd h
      obtain ⟨o, ho, rfl⟩ := mpd h
      exact tr (me_fld c.K (fun e he => c.fa.own e he) (F _ _ ho).1 (base_ok hb _ _ _)) fun _ => rfl
    · next elt tg it ifs scope p =>
      obtain ⟨hb, h⟩ := itd h
      obtain ⟨r, hr, h⟩ := bnd h
      obtain ⟨g, hg, h⟩ := bnd h
      obtain ⟨cc, hc, h⟩ := bnd h
      obtain ⟨e', he, h⟩ := bnd h
      obtain ⟨hsl, h⟩ := itd h
      cases h
      have B : BlkOk X.N X.env.scope scope (S.owns scope) := by rw [c.N, c.sc]; exact blkOk_by hb
      obtain ⟨pi, fold⟩ := irOf_ok c F hr
      have FB := fun s H Cc cl fp => eOf_ok n _ _ _ (c.blk s H scope Cc cl fp)
      have pl := pe_lc (pos := p) (elt := elt) (tg := tg) (iter := it) (ifs := ifs) c.calm c.hN pi B (fun s H Cc cl fp => (gOf_ok (c.blk s H scope Cc cl fp) hg).1) (fun s H Cc cl fp => ifOf_ok (FB s H Cc cl fp) hc) (fun s H Cc cl fp => (FB s H Cc cl fp _ _ he).1) (fold _)
      rw [cp_eq]
      exact tr (me_lk pl fun σ H Q ⟨ρ, τ, h, Qa, Qx, R, Sx, q, kk, hx⟩ => lc_of R Sx hx q kk (slots_ok hsl)) fun _ => rfl
    · next elt tg it ifs tg1 it1 ifs1 scope p =>
      obtain ⟨hb, h⟩ := itd h
      obtain ⟨r, hr, h⟩ := bnd h
      obtain ⟨g, hg, h⟩ := bnd h
      obtain ⟨cc, hc, h⟩ := bnd h
      obtain ⟨r1, hr1, h⟩ := bnd h
      obtain ⟨g1, hg1, h⟩ := bnd h
      obtain ⟨cc1, hc1, h⟩ := bnd h
      obtain ⟨e', he, h⟩ := bnd h
      obtain ⟨hsl, h⟩ := itd h
      cases h
      simp only [Bool.and_eq_true] at hsl
      have B : BlkOk X.N X.env.scope scope (S.owns scope) := by rw [c.N, c.sc]; exact blkOk_by hb
      obtain ⟨pi, fold⟩ := irOf_ok c F hr
      have FB := fun s H Cc cl fp => eOf_ok n _ _ _ (c.blk s H scope Cc cl fp)
      have pl := pe_lc2 (pos := p) (elt := elt) (tg := tg) (iter := it) (ifs := ifs) (tg1 := tg1) (iter1 := it1) (ifs1 := ifs1) (vs1 := g1.slots) c.calm c.hN pi B (slots_ok hsl.2) (fun s H Cc cl fp => (gOf_ok (c.blk s H scope Cc cl fp) hg).1) (fun s H Cc cl fp => ifOf_ok (FB s H Cc cl fp) hc)
        (fun s H Cc cl fp => (irOf_ok (c.blk s H scope Cc cl fp) (FB s H Cc cl fp) hr1).1) (fun s H Cc cl fp => (gOf_ok (c.blk s H scope Cc cl fp) hg1).1) (fun s H Cc cl fp => ifOf_ok (FB s H Cc cl fp) hc1) (fun s H Cc cl fp => (FB s H Cc cl fp _ _ he).1) (fold _) (irOf_ok (c.blk ⟨⟨#[], X.s_0.heap.life⟩, #[], X.s_0.drawn, 0, X.s_0.os⟩ X.H_0 scope 0 [] []) (FB _ _ _ _ _) hr1).2
      rw [cp2_eq]
      exact tr (PE.imp pl fun σ H Q ⟨ρ, τ, h, Qa, Qx, R, Sx, q, kk, hx⟩ => lc2_of R Sx hx q kk (slots_ok hsl.1) fun i hi => hi) fun _ => rfl
    · next kx elt tg it ifs scope p =>
      obtain ⟨hb, h⟩ := itd h
      obtain ⟨r, hr, h⟩ := bnd h
      obtain ⟨g, hg, h⟩ := bnd h
      obtain ⟨cc, hc, h⟩ := bnd h
      obtain ⟨k', hk, h⟩ := bnd h
      obtain ⟨e', he, h⟩ := bnd h
      obtain ⟨hsl, h⟩ := itd h
      cases h
      have B : BlkOk X.N X.env.scope scope (S.owns scope) := by rw [c.N, c.sc]; exact blkOk_by hb
      obtain ⟨pi, fold⟩ := irOf_ok c F hr
      have FB := fun s H Cc cl fp => eOf_ok n _ _ _ (c.blk s H scope Cc cl fp)
      have pl := pe_dc (pos := p) (kx := kx) (vx := elt) (tg := tg) (iter := it) (ifs := ifs) c.calm c.hN pi B (fun s H Cc cl fp => (gOf_ok (c.blk s H scope Cc cl fp) hg).1) (fun s H Cc cl fp => ifOf_ok (FB s H Cc cl fp) hc) (fun s H Cc cl fp => (FB s H Cc cl fp _ _ hk).1) (fun s H Cc cl fp => (FB s H Cc cl fp _ _ he).1) (fold _)
      rw [dc_eq]
      exact tr (me_lk pl fun σ H Q ⟨ρ, τ, h, Qa, Qx, R, Sx, q, kk, hx⟩ => dc_of R Sx hx q kk (slots_ok hsl)) fun _ => rfl
    · cases h
end
end Mi

set_option Elab.async false
set_option linter.all false
set_option maxRecDepth 100000
set_option maxHeartbeats 4000000
/-! Mi: statements of the program as statements of Mi, and that this is sound. -/
namespace Mi
open PySem PySem.Spec PyProof.Rows L2

def isCompE : Expr → Bool
  | .ListComp .. => true
  | .SetComp .. => true
  | .DictComp .. => true
  | _ => false
/-- the store is exchanged: a comprehension on the line of its one local target -/
def swB (S : Sc) (y : Str) (py p : Pos) (scope : Scope) : Bool := decide (S.sc.names.lookup y = some .local) && (py.line == p.line) && !(scope.names.any fun (n, k) => n == y && (k == .local || k == .cell))
def augOf : Operator → Option Op2
  | .Add => some .add
  | .Sub => some .sub
  | _ => none
def asOf (G : Gi) (S : Sc) (n : Nat) (tg e : Expr) : Option Mi.S := match tg with
  | .Name y _ => (eOf G n S e).bind fun c => (S.sto y).map fun i => .asg (.n i) c
  | .Subscript o i _ => if isCompE e then none else (eOf G n S e).bind fun e => (eOf G n S o).bind fun o => (eOf G n S i).map fun i => .sub o i e
  | .Tuple ts kt pt => if isCompE e then none else match e with
    | .Tuple vs _ _ => match ts, vs with
      | [.Name x px, .Name y py], [a, b] =>
        if decide (x ≠ y) && decide (S.sc.names.lookup x = some .local) && decide (S.sc.names.lookup y = some .local) && (py.line == px.line) && !([a, b].all (foldedForSure 8)) && !([a, b].all (constantsAlone 8)) then
          (S.ix x).bind fun i => (S.ix y).bind fun j => (eOf G n S a).bind fun a => (eOf G n S b).map fun b => .par i j a b
        else if !(decide (S.sc.names.lookup x = some .local) && decide (S.sc.names.lookup y = some .local)) && (noStar a && noStar b) then
          (eOf G n S e).bind fun e => (gOf S n (.Tuple ts kt pt)).map fun g => .asg g e
        else none
      | _, _ => none
    | _ => (eOf G n S e).bind fun e => (gOf S n (.Tuple ts kt pt)).map fun g => .asg g e
  | _ => none
mutual
def sOf (G : Gi) (S : Sc) : Nat → Stmt → Option Mi.S
  | 0, _ => none
  | n + 1, .Expr (.Constant (.str _) _ _) _ => some .pas
  | n + 1, .Expr e _ => if isCompE e then none else (eOf G n S e).map .ex
  | n + 1, .Return (some e) _ => (eOf G n S e).map .ret
  | n + 1, .Return none _ => some .retN
  | n + 1, .If c a b _ => (eOf G n S c).bind fun c => (ssOf G S n a).bind fun a => (ssOf G S n b).map fun b => .ite c a b
  | n + 1, .While c b [] _ => (eOf G n S c).bind fun c => (ssOf G S n b).map fun b => .whl c b
  | n + 1, .For tg it b [] _ => (irOf G S (eOf G n S) tg it).bind fun r => (gOf S n tg).bind fun g => (ssOf G S n b).map fun b => .loop g r b
  | n + 1, .Break _ => some .brk
  | n + 1, .Continue _ => some .cnt
  | n + 1, .Pass _ => some .pas
  | n + 1, .Raise (some (.Call (.Name x _) args [] _)) none _ => if S.glob x then (G.xcs.lookup x).bind fun c => (esOf (eOf G n S) args).map fun es => .rse c es else none
  | n + 1, .AugAssign (.Name x _) op e _ => (S.sto x).bind fun i => (augOf op).bind fun o => (eOf G n S e).map fun e => .aug i o e
  | n + 1, .Try body [.ExceptHandler (some (.Name x _)) (some nm) [.Assign [.Name m _] (.Name nm' _) _] _] [] [] _ =>
    if nm = nm' ∧ S.sc.names.lookup nm = some .local ∧ S.glob x = true then (G.cls.lookup x).bind fun c => (S.ix nm).bind fun i => (S.sto m).bind fun j => (ssOf G S n body).map fun b => .tryAs b c i j else none
  | n + 1, .Assign [tg] e _ => asOf G S n tg e
  | _, _ => none
def ssOf (G : Gi) (S : Sc) : Nat → List Stmt → Option Ss
  | 0, _ => none
  | n + 1, [] => some .nil
  | n + 1, a :: r => (sOf G S n a).bind fun a => (ssOf G S n r).map fun r => .cons a r
end
structure Cs (G : Gi) (T : Tab) (Z : Zi) (C : Cal) (k : Nat) (S : Sc) (X : Cx) (W : WX) : Prop extends Ck G T Z C k S X W where
  hs : X.stack = X.env :: X.outer
  hf : X.env.frame = some X.env.locals
  ex : X.ex = []
  po : PassesOwn (model X.prog X.w) X.A X.env X.xe
  kind : S.sc.kind = .function
section
variable {X : Cx} {T : Tab} {W : WX} {Z : Zi} {C : Cal} {G : Gi} {k : Nat} {S : Sc}
theorem Cs.tr (c : Cs G T Z C k S X W) {W' : WX} (pn : List (Addr × Obj)) (xe : Value → Shared → Prop) (tk : Takes (X.tr pn xe) W') (po : PassesOwn (model X.prog X.w) X.A X.env xe) : Cs G T Z C k S (X.tr pn xe) W' where
  N := c.N
  nd := c.nd
  sc := c.sc
  fn := c.fn
  K := c.K
  calm := c.calm
  room := c.room
  k3 := c.k3
  tk := tk
  fa := c.fa
  hs := c.hs
  hf := c.hf
  ex := c.ex
  po := po
  kind := c.kind
theorem sw_none {e : Expr} {l : Nat} {env : Env} (h : isCompE e = false) (t : Option Expr) : swapsWith e t l env = pure false := by
  cases e <;> first | rfl | cases h
theorem sw_sole {e t : Expr} {l : Nat} {env : Env} (h : isCompE e = false) : swapsWithSole [t] e l env = pure false := sw_none h (some t)
theorem bk_fun {env : Env} (hk : env.scope.kind = .function) : env.blockKind = .function := by unfold Env.blockKind; rw [hk]; rfl
theorem sw_lc {elt : Expr} {gs : List Comprehension} {scope : Scope} {pos py : Pos} {y : Str} {l : Nat} {env : Env} (hk : env.scope.kind = .function) :
    swapsWith (.ListComp elt gs scope pos) (some (.Name y py)) l env = pure (decide (env.scope.names.lookup y = some .local) && (py.line == pos.line) && !(scope.names.any fun (n, k) => n == y && (k == .local || k == .cell))) := by
  have hb := bk_fun hk
  have hd : decide (env.scope.names.lookup y = some .local) = (env.kindOf y == some .local) := by
    show decide (env.kindOf y = some .local) = (env.kindOf y == some .local)
    rw [Bool.eq_iff_iff, decide_eq_true_eq, beq_iff_eq]
  rw [hd]
  unfold swapsWith
  simp only [hb, Expr.pos]
  rfl
theorem sw_dc {kx elt : Expr} {gs : List Comprehension} {scope : Scope} {pos py : Pos} {y : Str} {l : Nat} {env : Env} (hk : env.scope.kind = .function) :
    swapsWith (.DictComp kx elt gs scope pos) (some (.Name y py)) l env = pure (decide (env.scope.names.lookup y = some .local) && (py.line == pos.line) && !(scope.names.any fun (n, k) => n == y && (k == .local || k == .cell))) := by
  have hb := bk_fun hk
  have hd : decide (env.scope.names.lookup y = some .local) = (env.kindOf y == some .local) := by
    show decide (env.kindOf y = some .local) = (env.kindOf y == some .local)
    rw [Bool.eq_iff_iff, decide_eq_true_eq, beq_iff_eq]
  rw [hd]
  unfold swapsWith
  simp only [hb, Expr.pos]
  rfl
theorem sw_two {a b : Expr} {x y : Str} {px py pt pt2 : Pos} {kt k2 : Nat} {env : Env} (hk : env.scope.kind = .function) (hx : env.scope.names.lookup x = some .local) (hy : env.scope.names.lookup y = some .local) (hl : (py.line == px.line) = true) (hne : x ≠ y) (ha : noStar a = true) (hb : noStar b = true)
    (hf : ([a, b].all (foldedForSure 8)) = false) (hc : ([a, b].all (constantsAlone 8)) = false) : swappedStores [.Tuple [.Name x px, .Name y py] kt pt] (.Tuple [a, b] k2 pt2) env = pure (some [x, y]) := by
  have hbk := bk_fun hk
  have ex : env.kindOf x = some .local := hx
  have ey : env.kindOf y = some .local := hy
  have hst : ([a, b].any fun e => match e with | .Starred .. => true | _ => false) = false := by
    cases a <;> first | (cases b <;> first | rfl | (cases hb; done)) | (cases ha; done)
  have hne' : (x == y) = false := beq_eq_false_iff_ne.mpr hne
  have hne2 : (y == x) = false := beq_eq_false_iff_ne.mpr (Ne.symm hne)
  unfold swappedStores
  simp only [hst, hf, hc, hbk, ex, ey, hl, List.length_cons, List.length_nil, List.filterMap_cons, List.filterMap_nil, List.head?, Option.map, Expr.pos, beq_self_eq_true, Bool.and_self, List.eraseDups_cons, List.filter_cons, List.filter_nil, List.eraseDups_nil, hne', hne2, Option.getD, bne_self_eq_false, Bool.or_false, Bool.true_or, Bool.not_true, Bool.not_false, Bool.and_true, if_true, if_false, Bool.false_eq_true]
  exact if_neg fun q => Bool.false_ne_true (hst.symm.trans q)
/-- one of the two is a cell: no exchange -/
theorem sw_cell {a b : Expr} {x y : Str} {px py pt pt2 : Pos} {kt k2 : Nat} {env : Env} (hk : env.scope.kind = .function) (h : (decide (env.scope.names.lookup x = some .local) && decide (env.scope.names.lookup y = some .local)) = false) (ha : noStar a = true) (hb : noStar b = true) :
    swappedStores [.Tuple [.Name x px, .Name y py] kt pt] (.Tuple [a, b] k2 pt2) env = pure none := by
  have hbk := bk_fun hk
  have kx : env.kindOf x = env.scope.names.lookup x := rfl
  have ky : env.kindOf y = env.scope.names.lookup y := rfl
  have hst : ([a, b].any fun e => match e with | .Starred .. => true | _ => false) = false := by
    cases a <;> first | (cases b <;> first | rfl | (cases hb; done)) | (cases ha; done)
  have dx : (env.kindOf x == some NameKind.local) = decide (env.scope.names.lookup x = some .local) := by
    rw [kx, Bool.eq_iff_iff, decide_eq_true_eq, beq_iff_eq]
  have dy : (env.kindOf y == some NameKind.local) = decide (env.scope.names.lookup y = some .local) := by
    rw [ky, Bool.eq_iff_iff, decide_eq_true_eq, beq_iff_eq]
  unfold swappedStores
  simp only [hbk, dx, dy, List.length_cons, List.length_nil, List.filterMap_cons, List.filterMap_nil, List.head?, Option.map, Expr.pos]
  have st : ∀ {α : Type} (p q : α), (if ([a, b].any fun e => match e with | .Starred .. => true | _ => false) = true then p else q) = q := fun p q => if_neg fun z => Bool.false_ne_true (hst.symm.trans z)
  cases h1 : decide (env.scope.names.lookup x = some .local) with
  | false =>
    cases h2 : (decide (env.scope.names.lookup y = some .local) && py.line == (some px.line).getD 0) <;> simp
    all_goals exact if_neg fun z => Bool.false_ne_true (hst.symm.trans z)
  | true =>
    rw [h1, Bool.true_and] at h
    rw [h]
    cases h2 : (px.line == (some px.line).getD 0) <;> simp
    all_goals exact if_neg fun z => Bool.false_ne_true (hst.symm.trans z)
end
end Mi

set_option Elab.async false
set_option linter.all false
set_option maxRecDepth 100000
set_option maxHeartbeats 4000000
/-! Mi: statements are sound. -/
namespace L2
open PySem PySem.Spec PyProof.Rows
/-- name = {..} on one line, the name a local -/
theorem ps_setDc {X : Cx} {i : Nat} {y : Str} {py : Pos} {kx vx tg iter : Expr} {ifs : List Expr} {scope : Scope} {own : List (Str × Nat)} {pos spos : Pos} {wi : TI} {g : TG} {tt : TT} {tk tv : TE} (hc : X.calm = true) (hN : X.N.Nodup) (hy : X.N[i]? = some y) (hyl : X.env.scope.names.lookup y = some .local)
    (hsw : swapsWith (.DictComp kx vx [⟨tg, iter, ifs, 0⟩] scope pos) (some (.Name y py)) spos.line X.env = pure true) (hi : PI X tg iter wi) (ok : BlkOk X.N X.env.scope scope own)
    (hg : ∀ (s : Shared) (H : Hp) (C : Addr) (cl : List (Str × Addr)) (fp : List Addr), PG (X.blk s H scope (compEnvC scope cl C X.env) fp) tg g) (ht : ∀ (s : Shared) (H : Hp) (C : Addr) (cl : List (Str × Addr)) (fp : List Addr), PTs (X.blk s H scope (compEnvC scope cl C X.env) fp) ifs tt)
    (hk : ∀ (s : Shared) (H : Hp) (C : Addr) (cl : List (Str × Addr)) (fp : List Addr), PE (X.blk s H scope (compEnvC scope cl C X.env) fp) kx tk)
    (he : ∀ (s : Shared) (H : Hp) (C : Addr) (cl : List (Str × Addr)) (fp : List Addr), PE (X.blk s H scope (compEnvC scope cl C X.env) fp) vx tv) (hs : ∀ x, foldedSetIterable iter X.env x = pure x) :
    PS X (.Assign [.Name y py] (.DictComp kx vx [⟨tg, iter, ifs, 0⟩] scope pos) spos) (tAsg (tDc wi g tt tk tv (own.map (·.2))) (gName i)) := by
  refine ⟨fun pins s σ H D I h => ?_⟩
  rw [exec_Assign_Name_used _ _ _ _ hsw]
  refine wpAny_bind (wpAny_standAt (wpAny_bind ?_))
  show wpAny _ X.A (do let _ ← comprehension (.DictComp kx vx [⟨tg, iter, ifs, 0⟩] scope pos) scope X.env (firstIterPos [⟨tg, iter, ifs, 0⟩] pos) newDict false (eval iter X.env) (some (assign (.Name y py) X.env))) _ _ s
  have h : tDc wi g tt tk tv (own.map (·.2)) σ H (fun x H1 => gName i x σ H1 D.nx) := h
  refine wpAny_bind (thn (dc_core (Qf := fun _ s' => SP X pins D .next s') hc hN I hi ok hg ht hk he hs h fun L C s' m H' I' q hn f => ?_) fun _ s' hq => wpAny_pure (wpAny_pure hq))
  show wpAny _ _ (assign (.Name y py) X.env (.ref L)) _ _ _
  refine wpAny_assign_Name (store_ok2 (v := V.ref L) I' hN hy (.inl hyl) rfl (fun s2 I2 ⟨a, sb, ha⟩ => ?_) (.inr hyl))
  obtain ⟨f0, f1, f2, f3, f4, f5⟩ := f
  have haC : C ≠ a := by
    rcases ha with z | z
    · rw [z]; exact f1
    · exact fun e => f4 y a z e.symm
  exact ⟨m, hn.sameBut sb haC, fun h3 sb3 => ⟨_, H', I2.turned (t' := s2.toks) (fun b o hb e => (sb3.2 b hb).trans e) f0 f1 f3 f4 f5, q⟩⟩
end L2
namespace Mi
open PySem PySem.Spec PyProof.Rows L2
section
variable {T : Tab} {Z : Zi} {C : Cal} {G : Gi} {k : Nat}
theorem augOf_ok {X : Cx} {op : Operator} {o : Op2} (h : augOf op = some o) : ∃ f, PIp X op (ipI f) ∧ ∀ x y k, augP o x y k → ∃ a b, x = .int a ∧ y = .int b ∧ k (.int (f a b)) := by
  cases op <;> cases h
  · refine ⟨_, ip_add, fun x y k q => ?_⟩
    cases x <;> first | exact q.elim | skip
    cases y <;> first | exact q.elim | skip
    exact ⟨_, _, rfl, rfl, q⟩
  · refine ⟨_, ip_sub, fun x y k q => ?_⟩
    cases x <;> first | exact q.elim | skip
    cases y <;> first | exact q.elim | skip
    exact ⟨_, _, rfl, rfl, q⟩
theorem sto_pg {X : Cx} {W : WX} {S : Sc} (c : Ck G T Z C k S X W) {y : Str} {i : Nat} {py : Pos} (h : S.sto y = some i) : PG X (.Name y py) (liftG T (Mi.G.n i).slots fun h d => gAs h (.n i) d) := by
  obtain ⟨a, b, d⟩ := sto_ok h
  refine mg_n c.hN (c.at_ a) (by rw [c.sc]; exact b) ?_
  rcases d with d | d
  · exact .inl (c.fn _ d)
  · exact .inr (by rw [c.sc]; exact d)
/-- a comprehension, as a value and stored on its line -/
theorem comp_ok {X : Cx} {W : WX} {S : Sc} (c : Ck G T Z C k S X W) {n : Nat} {x : Expr} {ec : E} (hx : isCompE x = true) (h : eOf G n S x = some ec) :
    ∃ (t : TE) (r : Ir) (w : EW), (∀ y py i (spos : Pos), swapsWith x (some (.Name y py)) spos.line X.env = pure true → X.N[i]? = some y → X.env.scope.names.lookup y = some .local → PS X (.Assign [.Name y py] x spos) (tAsg t (gName i))) ∧ wE Z C ec = wLk r w ∧ ∀ σ H Q, liftE T W w σ H Q → t σ H Q := by
  cases n with
  | zero => cases h
  | succ n =>
    have F := eOf_ok n S X W c
    unfold eOf at h
    split at h
    all_goals first | (cases hx; done) | skip
    · next elt tg it ifs scope p =>
      obtain ⟨hb, h⟩ := itd h
      obtain ⟨r, hr, h⟩ := bnd h
      obtain ⟨g, hg, h⟩ := bnd h
      obtain ⟨cc, hc, h⟩ := bnd h
      obtain ⟨e', he, h⟩ := bnd h
      obtain ⟨hsl, h⟩ := itd h
      cases h
      have B : BlkOk X.N X.env.scope scope (S.owns scope) := by rw [c.N, c.sc]; exact blkOk_by hb
      obtain ⟨pi, fold⟩ := irOf_ok c F hr
      have FB := fun s H Cc cl fp => eOf_ok n _ _ _ (c.blk s H scope Cc cl fp)
      refine ⟨_, r, _, fun y py i spos hsw hy hyl => ps_setLc c.calm c.hN hy hyl hsw pi B (fun s H Cc cl fp => (gOf_ok (c.blk s H scope Cc cl fp) hg).1) (fun s H Cc cl fp => ifOf_ok (FB s H Cc cl fp) hc) (fun s H Cc cl fp => (FB s H Cc cl fp _ _ he).1) (fold _), cp_eq _ _ _ _ _ _, fun σ H Q ⟨ρ, τ, h, Qa, Qx, R, Sx, q, kk, hx⟩ => lc_of R Sx hx q kk (slots_ok hsl)⟩
    · next elt tg it ifs tg1 it1 ifs1 scope p =>
      obtain ⟨hb, h⟩ := itd h
      obtain ⟨r, hr, h⟩ := bnd h
      obtain ⟨g, hg, h⟩ := bnd h
      obtain ⟨cc, hc, h⟩ := bnd h
      obtain ⟨r1, hr1, h⟩ := bnd h
      obtain ⟨g1, hg1, h⟩ := bnd h
      obtain ⟨cc1, hc1, h⟩ := bnd h
      obtain ⟨e', he, h⟩ := bnd h
      obtain ⟨hsl, h⟩ := itd h
      cases h
      simp only [Bool.and_eq_true] at hsl
      have B : BlkOk X.N X.env.scope scope (S.owns scope) := by rw [c.N, c.sc]; exact blkOk_by hb
      obtain ⟨pi, fold⟩ := irOf_ok c F hr
      have FB := fun s H Cc cl fp => eOf_ok n _ _ _ (c.blk s H scope Cc cl fp)
      refine ⟨_, .r1 (.k .non), _, fun y py i spos hsw hy hyl => ps_setLc2 (vs1 := g1.slots) c.calm c.hN hy hyl hsw pi B (slots_ok hsl.2) (fun s H Cc cl fp => (gOf_ok (c.blk s H scope Cc cl fp) hg).1) (fun s H Cc cl fp => ifOf_ok (FB s H Cc cl fp) hc)
        (fun s H Cc cl fp => (irOf_ok (c.blk s H scope Cc cl fp) (FB s H Cc cl fp) hr1).1) (fun s H Cc cl fp => (gOf_ok (c.blk s H scope Cc cl fp) hg1).1) (fun s H Cc cl fp => ifOf_ok (FB s H Cc cl fp) hc1) (fun s H Cc cl fp => (FB s H Cc cl fp _ _ he).1) (fold _) (irOf_ok (c.blk ⟨⟨#[], X.s_0.heap.life⟩, #[], X.s_0.drawn, 0, X.s_0.os⟩ X.H_0 scope 0 [] []) (FB _ _ _ _ _) hr1).2,
        (cp2_eq _ _ _ _ _ _ _ _ _ _).trans (by funext Q Qx τ h; rfl), fun σ H Q ⟨ρ, τ, h, Qa, Qx, R, Sx, q, kk, hx⟩ => lc2_of R Sx hx q kk (slots_ok hsl.1) fun i hi => hi⟩
    · next kx elt tg it ifs scope p =>
      obtain ⟨hb, h⟩ := itd h
      obtain ⟨r, hr, h⟩ := bnd h
      obtain ⟨g, hg, h⟩ := bnd h
      obtain ⟨cc, hc, h⟩ := bnd h
      obtain ⟨k', hk, h⟩ := bnd h
      obtain ⟨e', he, h⟩ := bnd h
      obtain ⟨hsl, h⟩ := itd h
      cases h
      have B : BlkOk X.N X.env.scope scope (S.owns scope) := by rw [c.N, c.sc]; exact blkOk_by hb
      obtain ⟨pi, fold⟩ := irOf_ok c F hr
      have FB := fun s H Cc cl fp => eOf_ok n _ _ _ (c.blk s H scope Cc cl fp)
      refine ⟨_, r, _, fun y py i spos hsw hy hyl => ps_setDc c.calm c.hN hy hyl hsw pi B (fun s H Cc cl fp => (gOf_ok (c.blk s H scope Cc cl fp) hg).1) (fun s H Cc cl fp => ifOf_ok (FB s H Cc cl fp) hc) (fun s H Cc cl fp => (FB s H Cc cl fp _ _ hk).1) (fun s H Cc cl fp => (FB s H Cc cl fp _ _ he).1) (fold _), dc_eq _ _ _ _ _ _ _, fun σ H Q ⟨ρ, τ, h, Qa, Qx, R, Sx, q, kk, hx⟩ => dc_of R Sx hx q kk (slots_ok hsl)⟩
    all_goals cases h
theorem asOf_ok {X : Cx} {W : WX} {S : Sc} (c : Cs G T Z C k S X W) {n : Nat} {tg e : Expr} {s : Mi.S} {pos : Pos} (h : asOf G S n tg e = some s) : PS X (.Assign [tg] e pos) (liftS T W (wS Z C s)) := by
  have F := eOf_ok n S X W c.toCk
  have hk : X.env.scope.kind = .function := by rw [c.sc]; exact c.kind
  unfold asOf at h
  split at h
  · next y py =>
    obtain ⟨ec, he, h⟩ := bnd h
    obtain ⟨i, hi, rfl⟩ := mpd h
    have p := (F _ _ he).1
    have hg := sto_pg c.toCk (py := py) hi
    have hyN : X.N[i]? = some y := c.at_ (sto_ok hi).1
    by_cases hx : isCompE e = true
    · obtain ⟨t, r, w, hps, hw, hj⟩ := comp_ok c.toCk hx he
      have dich : swapsWith e (some (.Name y py)) pos.line X.env = pure false ∨ (swapsWith e (some (.Name y py)) pos.line X.env = pure true ∧ X.env.scope.names.lookup y = some .local) := by
        cases e with
        | ListComp elt gens scope p0 =>
          rw [sw_lc hk]
          cases hb : (decide (X.env.scope.names.lookup y = some .local) && (py.line == p0.line) && !(scope.names.any fun (n, k) => n == y && (k == .local || k == .cell))) with
          | false => exact .inl rfl
          | true => exact .inr ⟨rfl, by simp only [Bool.and_eq_true, decide_eq_true_eq] at hb; exact hb.1.1⟩
        | DictComp kx elt gens scope p0 =>
          rw [sw_dc hk]
          cases hb : (decide (X.env.scope.names.lookup y = some .local) && (py.line == p0.line) && !(scope.names.any fun (n, k) => n == y && (k == .local || k == .cell))) with
          | false => exact .inl rfl
          | true => exact .inr ⟨rfl, by simp only [Bool.and_eq_true, decide_eq_true_eq] at hb; exact hb.1.1⟩
        | SetComp => cases n <;> cases he
        | _ => cases hx
      rcases dich with d | ⟨d, hyl⟩
      · exact ms_asg p hg d (by cases e <;> first | rfl | cases hx) rfl
      · have q := ms_asgC (T := T) (W := W) (r := r) (hps y py i pos d hyN hyl) hj
        refine PS.imp q fun D σ H h => ?_
        have e0 : wS Z C (.asg (.n i) ec) = fun D τ h => wLk r w (fun d h1 => wG (.n i) d D.nx τ h1) (D.px τ) τ h := by
          rw [← hw]; rfl
        rw [e0] at h
        exact h
    · have hx' : isCompE e = false := by simpa using hx
      exact ms_asg p hg (sw_sole hx') (by cases e <;> rfl) rfl
  · next o i p2 =>
    by_cases hx : isCompE e = true
    · rw [if_pos hx] at h; cases h
    · rw [if_neg hx] at h
      have hx' : isCompE e = false := by simpa using hx
      obtain ⟨e', he, h⟩ := bnd h
      obtain ⟨o', ho, h⟩ := bnd h
      obtain ⟨i', hi, rfl⟩ := mpd h
      refine ms_sub c.un (F _ _ he).1 (F _ _ ho).1 (F _ _ hi).1 (sw_sole hx') (by cases e <;> rfl) fun v => ?_
      have ns := eOf_noSlice hi
      cases i <;> first | rfl | (cases n <;> cases hi)
  · next ts kt pt =>
    by_cases hx : isCompE e = true
    · rw [if_pos hx] at h; cases h
    · rw [if_neg hx] at h
      have hx' : isCompE e = false := by simpa using hx
      split at h
      · next vs k2 pt2 =>
        split at h
        · next x px y py a b =>
          split at h
          case isFalse =>
            obtain ⟨hc, h⟩ := itd h
            rw [Bool.and_eq_true, Bool.and_eq_true, Bool.not_eq_true'] at hc
            obtain ⟨e', he, h⟩ := bnd h
            obtain ⟨g, hg, rfl⟩ := mpd h
            exact ms_asg (F _ _ he).1 (gOf_ok c.toCk hg).1 (sw_sole hx') (sw_cell hk (by rw [c.sc]; exact hc.1) hc.2.1 hc.2.2) rfl
          rename_i hc
          simp only [Bool.and_eq_true, decide_eq_true_eq, Bool.not_eq_true'] at hc
          obtain ⟨⟨⟨⟨⟨h1, h2⟩, h3⟩, h4⟩, h5⟩, h6⟩ := hc
          obtain ⟨i, hi, h⟩ := bnd h
          obtain ⟨j, hj, h⟩ := bnd h
          obtain ⟨a', ha, h⟩ := bnd h
          obtain ⟨b', hb, rfl⟩ := mpd h
          have ei := (ix_ok hi).1
          have ej := (ix_ok hj).1
          have hij : i ≠ j := fun e => h1 (Option.some.inj (by rw [← ei, ← ej, e]))
          have hx2 : X.env.scope.names.lookup x = some .local := by rw [c.sc]; exact h2
          have hy2 : X.env.scope.names.lookup y = some .local := by rw [c.sc]; exact h3
          exact ms_par c.calm c.hN (c.at_ ei) (c.at_ ej) hij hx2 hy2 (F _ _ ha).1 (F _ _ hb).1 (eOf_noStar ha) (eOf_noStar hb) (sw_two hk hx2 hy2 h4 h1 (eOf_noStar ha) (eOf_noStar hb) h5 h6)
        · cases h
      · next hnt =>
        obtain ⟨e', he, h⟩ := bnd h
        obtain ⟨g, hg, rfl⟩ := mpd h
        exact ms_asg (F _ _ he).1 (gOf_ok c.toCk hg).1 (sw_sole hx') (by cases e <;> first | rfl | exact absurd rfl (hnt _ _ _)) rfl
  · cases h
end
end Mi

set_option Elab.async false
set_option linter.all false
set_option maxRecDepth 100000
set_option maxHeartbeats 4000000
/-! Mi: statements are sound, together; defs; a law. -/
namespace Mi
open PySem PySem.Spec PyProof.Rows L2
section
variable {T : Tab} {Z : Zi} {C : Cal} {G : Gi} {k : Nat}
abbrev SOk (T : Tab) (Z : Zi) (C : Cal) (G : Gi) (k : Nat) (S : Sc) (n : Nat) : Prop := ∀ (X : Cx) (W : WX), Cs G T Z C k S X W → (∀ st s, sOf G S n st = some s → PS X st (liftS T W (wS Z C s))) ∧ ∀ ss s, ssOf G S n ss = some s → PSs X ss (liftS T W (wSs Z C s))
theorem loop_eq (C : Cal) (g : Mi.G) (r : Ir) (b : Ss) : wS Z C (.loop g r b) = wLkS r (wFor (wI Z C r) g (wSs Z C b)) := by
  funext D τ h; rfl
theorem sOf_step {S : Sc} {n : Nat} (ih : SOk T Z C G k S n) (X : Cx) (W : WX) (c : Cs G T Z C k S X W) (st : Stmt) (s : Mi.S) (h : sOf G S (n + 1) st = some s) : PS X st (liftS T W (wS Z C s)) := by
  have F := eOf_ok n S X W c.toCk
  have N : ∀ x e, eOf G n S x = some e → noStar x = true := fun x e h => eOf_noStar h
  have B := (ih X W c).2
  unfold sOf at h
  split at h
  · next h0 => cases h0
  · next h0 => cases h0; cases h; exact ms_doc
  · next h0 =>
    cases h0
    split at h
    · cases h
    · next hx =>
      obtain ⟨e', he, rfl⟩ := mpd h
      exact ms_ex (F _ _ he).1 (sw_none (by simpa using hx) none)
  · next h0 => cases h0; obtain ⟨e', he, rfl⟩ := mpd h; exact ms_ret (F _ _ he).1
  · next h0 => cases h0; cases h; exact ms_retN
  · next h0 =>
    cases h0
    obtain ⟨c', hc, h⟩ := bnd h
    obtain ⟨a', ha, h⟩ := bnd h
    obtain ⟨b', hb, rfl⟩ := mpd h
    exact ms_if (F _ _ hc).2 (B _ _ ha) (B _ _ hb)
  · next h0 =>
    cases h0
    obtain ⟨c', hc, h⟩ := bnd h
    obtain ⟨b', hb, rfl⟩ := mpd h
    exact ms_while c.po (F _ _ hc).2 (B _ _ hb)
  · next h0 =>
    cases h0
    obtain ⟨r, hr, h⟩ := bnd h
    obtain ⟨g, hg, h⟩ := bnd h
    obtain ⟨b', hb, rfl⟩ := mpd h
    obtain ⟨pi, fold⟩ := irOf_ok c.toCk F hr
    rw [loop_eq]
    exact ms_lk (ps_for c.po c.calm pi (gOf_ok c.toCk hg).1 (B _ _ hb) (fold _)) for_of
  · next h0 => cases h0; cases h; exact ms_brk
  · next h0 => cases h0; cases h; exact ms_cnt
  · next h0 => cases h0; cases h; exact ms_pas
  · next h0 =>
    cases h0
    obtain ⟨hg0, h⟩ := itd h
    obtain ⟨hg1, hdb⟩ := glob_ok hg0
    have hg := c.gl hg1
    obtain ⟨cc, hf, h⟩ := bnd h
    obtain ⟨es, he, rfl⟩ := mpd h
    obtain ⟨p1, p2, p3⟩ := esOf_ok F N he
    obtain ⟨hm, hk, s1, s2, mk⟩ := c.fa.xcs _ cc (lookup_mem hf)
    have r : Raises X (.ref (T.xa cc)) := raises_own (by rw [c.K]; exact s1) (by rw [c.K]; exact s2)
    cases mk with
    | plain Fx q m => exact ms_rse c.calm c.tk (mm_plain Fx (by rw [c.K]; exact q) m hm (by rw [c.K]; exact hk) r hg p1 hdb p2 p3)
    | own O iC tI F1 hk2 hb m => exact ms_rse c.calm c.tk (mm_own (by rw [c.K]; exact O) (by rw [c.K]; exact iC) (by rw [c.K]; exact tI) (by rw [c.K]; exact F1) (c.room.mono (by have := c.k3; omega)) (by rw [c.K]; exact hb) m hg hm p1 hdb p2 p3)
  · next h0 =>
    cases h0
    obtain ⟨i, hi, h⟩ := bnd h
    obtain ⟨o, ho, h⟩ := bnd h
    obtain ⟨e', he, rfl⟩ := mpd h
    obtain ⟨a, b, d⟩ := sto_ok hi
    obtain ⟨f, pf, hp⟩ := augOf_ok (X := X) ho
    refine ms_aug c.hN (c.at_ a) (by rw [c.sc]; exact b) (F _ _ he).1 pf ?_ hp
    rcases d with d | d
    · exact .inl (c.fn _ d)
    · exact .inr (by rw [c.sc]; exact d)
  · next h0 =>
    cases h0
    obtain ⟨⟨e1, e2, e3⟩, h2⟩ := itd h
    clear h
    subst e1
    have h := h2
    clear h2
    obtain ⟨hg1, hdb⟩ := glob_ok e3
    obtain ⟨cc, hcl, h⟩ := bnd h
    obtain ⟨i, hi, h⟩ := bnd h
    obtain ⟨j, hj, h⟩ := bnd h
    obtain ⟨b', hb, rfl⟩ := mpd h
    obtain ⟨cv, v, hname, rv, uniq, hN, hE⟩ := c.fa.cls _ cc (lookup_mem hcl)
    obtain ⟨i1, i2, i3⟩ := ix_ok hi
    obtain ⟨a, b, d⟩ := sto_ok hj
    refine ms_try c.K c.hs c.hf c.hN (c.at_ i1) ?_ (c.at_ a) (by rw [c.sc]; exact b) ?_ i2 i3 ⟨c.gl hg1, hdb, hname⟩ c.tk c.ex (fun e he => (hE e he).2) fun W' pn xe tk po => (ih _ _ (c.tr pn xe tk po)).2 _ _ hb
    · show X.env.scope.names.lookup _ = _
      rw [c.sc]; exact e2
    · rcases d with d | d
      · exact .inl (c.fn _ d)
      · exact .inr (by rw [c.sc]; exact d)
  · next h0 => cases h0; exact asOf_ok c h
  · cases h
theorem sOf_ok (S : Sc) : ∀ n, SOk T Z C G k S n
  | 0 => fun X W c => ⟨fun st s h => (by unfold sOf at h; cases h), fun ss s h => (by unfold ssOf at h; cases h)⟩
  | n + 1 => fun X W c => by
    have ih := sOf_ok S n
    refine ⟨sOf_step ih X W c, fun ss s h => ?_⟩
    cases ss with
    | nil => cases h; exact mss_nil
    | cons a r =>
      unfold ssOf at h
      obtain ⟨a', ha, h⟩ := bnd h
      obtain ⟨r', hr, rfl⟩ := mpd h
      have q := mss_cons ((ih X W c).1 _ _ ha) ((ih X W c).2 _ _ hr)
      exact q
end
end Mi

set_option Elab.async false
set_option linter.all false
set_option maxRecDepth 100000
set_option maxHeartbeats 4000000
/-! Mi: defs by depth; the head's facts; a law. -/
namespace Mi
open PySem PySem.Spec PyProof.Rows L2

/-- a def of Mi: its parameters, all its names, its body -/
structure Fd where
  np : Nat
  nn : Nat
  body : Ss
/-- what must hold ahead of a call of the f-th def, so many calls deep -/
def WPc (Z : Zi) (B : List Fd) : Nat → Cal
  | 0, _, _, _, _, _ => False
  | n + 1, f, ds, h, Q, Qx => match B[f]? with
    | some b => ds.length = b.np ∧ wSs Z (WPc Z B n) b.body { nx := fun _ h => Q .non h, rt := Q, bk := fun _ _ => False, ct := fun _ _ => False, ex := fun c fs _ h => Qx c fs h } (ds.map some ++ List.replicate (b.nn - ds.length) none) h
    | none => False
theorem WPc_len {Z : Zi} {B : List Fd} {n f : Nat} {ds : List D} {h : Hh} {Q : PQ} {Qx : PX} (w : WPc Z B n f ds h Q Qx) : ∃ b, B[f]? = some b ∧ ds.length = b.np := by
  cases n with
  | zero => exact w.elim
  | succ n =>
    unfold WPc at w
    split at w
    · next b e => exact ⟨b, e, w.1⟩
    · exact w.elim
theorem RelS.start {T : Tab} {ρ : List Addr} {H : Hp} {ds : List D} {vs : List V} (r : RelDs T ρ H ds vs) (n : Nat) : RelS T ρ H (ds.map some ++ List.replicate n none) (vs.map some ++ List.replicate n none) := by
  refine ⟨by simp [r.length], fun i d e => ?_⟩
  by_cases hi : i < ds.length
  · rw [List.getElem?_append_left (by simpa using hi), List.getElem?_map] at e
    rw [List.getElem?_append_left (by rw [List.length_map, ← r.length]; exact hi), List.getElem?_map]
    cases ed : ds[i]? with
    | none => rw [ed] at e; cases e
    | some d' =>
      rw [ed] at e
      cases e
      obtain ⟨v, ev, rv⟩ := r.get ed
      exact ⟨v, by rw [ev]; rfl, rv⟩
  · rw [List.getElem?_append_right (by simpa using hi), List.getElem?_replicate] at e
    split at e <;> cases e
theorem spF_false {T : Tab} {n : Nat} {c : List D → Hh → PQ → PX → Prop} (hc : ∀ ds h Q Qx, ¬ c ds h Q Qx) {vs : List V} {H : Hp} {Q : VK} {E : XK} (s : spF T n c vs H Q E) : False := by
  obtain ⟨_, ρ, h, ds, Qa, Qx, _, _, q, _⟩ := s
  exact hc _ _ _ _ q
section
variable {T : Tab} {Z : Zi} {G : Gi} {B : List Fd} {P : Program} {w : World} {mg : Str → Option Value} {base : Heap}
/-- a def's body, one deeper -/
theorem fn_deep {n k f : Nat} {x qual : Str} {params : Arguments} {body : List Stmt} {scope : Scope} {fa : Addr} {fd : FuncData} {N ps : List Str} {b : Fd} (k3 : 3 ≤ k) (F : FunD T.K x qual params body scope [] [] fa fd) (S : FnScope N ps scope) (hb : B[f]? = some b) (hnp : b.np = ps.length) (hnn : b.nn = N.length)
    {m : Nat} (txt : ssOf G ⟨N, scope, true, scope⟩ m body = some b.body) (fac : Facts G T Z (WPc Z B n) P w mg base k) : FnOk P w T.K mg base (L2.CX P w) (k + 1) fa fd ps (spF T ps.length (WPc Z B (n + 1) f)) := by
  refine F.ok S (fun vs H Q E h => h.1) fun cdv A outer s H vs Q E hr h => ?_
  obtain ⟨hl, ρ, hh, ds, Qa, Qx, R, rs, q, k1, k2⟩ := h
  unfold WPc at q
  rw [hb] at q
  obtain ⟨hds, q⟩ := q
  have c : Cs G T Z (WPc Z B n) k ⟨N, scope, true, scope⟩ (cxOf (L2.CX P w) P w T.K mg base N qual scope fa cdv A outer s H E) (fun cls d _ H => E cls d H) := {
    N := rfl
    nd := S.nd
    sc := rfl
    fn := fun _ _ => rfl
    K := rfl
    calm := rfl
    room := hr
    k3 := k3
    tk := takes_of (X := cxOf (L2.CX P w) P w T.K mg base N qual scope fa cdv A outer s H E) rfl rfl rfl rfl
    fa := fac
    hs := rfl
    hf := rfl
    ex := rfl
    po := passes_of (X := cxOf (L2.CX P w) P w T.K mg base N qual scope fa cdv A outer s H E) rfl
    kind := S.kind }
  refine ⟨_, (sOf_ok _ m _ _ c).2 _ _ txt, ρ, _, hh, _, R, ?_, q, ?_⟩
  · have e : b.nn - ds.length = N.length - vs.length := by rw [hnn, rs.length]
    rw [e]
    exact RelS.start rs _
  · exact ⟨fun ρ' H' h' τ' σ' a S' q' => k1 _ _ _ _ _ a .non q', fun ρ' H' h' d v a rd q' => k1 _ _ _ _ _ a rd q', fun ρ' H' h' τ' σ' a S' q' => q'.elim, fun ρ' H' h' τ' σ' a S' q' => q'.elim, fun ρ' H' h' τ' σ' c fs cls dx a S' rx q' => k2 _ _ _ _ _ _ _ a rx q'⟩
theorem fn_zero {f k : Nat} {fa : Addr} {fd : FuncData} {ps : List Str} : FnOk P w T.K mg base (L2.CX P w) k fa fd ps (spF T ps.length (WPc Z B 0 f)) where
  len := fun vs H Q E h => h.1
  run := fun A outer s H args us vs Q E _ _ _ _ h => (spF_false (fun _ _ _ _ z => z) h).elim
/-- the facts that hang on no def -/
structure Facts0 (G : Gi) (T : Tab) (Z : Zi) (P : Program) (w : World) (mg : Str → Option Value) (base : Heap) : Prop where
  xcs : ∀ x c, (x, c) ∈ G.xcs → mg x = some (.ref (T.xa c)) ∧ PySem.W.keepIn T.K (.ref (T.xa c)) = true ∧ PySem.W.subIn T.K (.ref (T.xa c)) (.type "BaseException") = some true ∧ PySem.W.typeIn T.K (.ref (T.xa c)) = some (.type "type") ∧ XMk T Z P w mg base c
  fre : ∀ x, x ∈ G.free → mg x = none ∧ x ≠ "__name__"
  cst : ∀ x d, (x, d) ∈ G.cst → ∃ u v, mg x = some u ∧ RelV v u ∧ ∀ ρ H, RelD T ρ H d v
  cls : ∀ x c, (x, c) ∈ G.cls → ∃ cv v, (mg x = some cv ∨ (mg x = none ∧ bootBuiltins x = some cv ∧ x ≠ "__name__")) ∧ RelV v cv ∧ (∀ u, RelV v u → u = cv) ∧ PySem.W.kitOne T.K (.type "NoneType") cv = some false ∧
    ∀ e, e < Z.nx → PySem.W.kitOne T.K (.ref (T.xa e)) cv = some (Z.le e c) ∧ PySem.W.exmOne T.K (.ref (T.xa e)) cv = some (Z.le e c)
  own : ∀ e, e < Z.nx → ExcC T.K (T.xa e) ∧ ("__class__" : Str) ∉ T.xf e ∧ (T.xf e).Nodup ∧ ∀ f i, Z.fld e f = some i → (T.xf e)[i]? = some f ∧ PySem.W.findIn T.K (.ref (T.xa e)) f = some none
/-- the defs as the program has them -/
structure DefAt (G : Gi) (T : Tab) (B : List Fd) (mg : Str → Option Value) (x : Str) (f : Nat) : Prop where
  ex : ∃ fa fd qual params body scope N ps b m, mg x = some (.ref fa) ∧ FunD T.K x qual params body scope [] [] fa fd ∧ FnScope N ps scope ∧ B[f]? = some b ∧ b.np = ps.length ∧ b.nn = N.length ∧ ssOf G ⟨N, scope, true, scope⟩ m body = some b.body ∧ Binds T.K fd ps []
theorem facts_of (D : ∀ x f, (x, f) ∈ G.fns → DefAt G T B mg x f) (F0 : Facts0 G T Z P w mg base) : ∀ n, Facts G T Z (WPc Z B n) P w mg base (n + 3)
  | 0 => by
    refine ⟨fun x f hx => ?_, F0.xcs, F0.fre, F0.cst, F0.cls, F0.own⟩
    obtain ⟨fa, fd, qual, params, body, scope, N, ps, b, m, hm, hF, hS, hb, hnp, hnn, ht, hB⟩ := (D x f hx).ex
    exact ⟨fa, fd, ps, hm, hF.kp, hB, fun ds h Q Qx z => z.elim, fn_zero⟩
  | n + 1 => by
    refine ⟨fun x f hx => ?_, F0.xcs, F0.fre, F0.cst, F0.cls, F0.own⟩
    obtain ⟨fa, fd, qual, params, body, scope, N, ps, b, m, hm, hF, hS, hb, hnp, hnn, ht, hB⟩ := (D x f hx).ex
    refine ⟨fa, fd, ps, hm, hF.kp, hB, fun ds h Q Qx z => ?_, fn_deep (by omega) hF hS hb hnp hnn ht (facts_of D F0 n)⟩
    obtain ⟨b', e, hl⟩ := WPc_len z
    rw [hb] at e
    cases e
    rw [hl, hnp]
end
end Mi

set_option Elab.async false
set_option linter.all false
set_option maxRecDepth 100000
set_option maxHeartbeats 4000000
/-! Mi: what the head tells of the program. -/
namespace Mi
open PySem PySem.Spec PyProof.Rows L2

/-! ### a hook with one Bool more -/
def obsX (B : PySem.W.Frag → Bool) (fa : List He.Fa) (fn : List He.DefD) (K : PySem.W.Frag) : Bool × He.AlD := (B K, He.obsD fa fn K)
def obsXG (n : Nat) (B : PySem.W.Frag → Bool) (fa : List He.Fa) (fn : List He.DefD) (g : Addr → Option Obj) : Bool × He.AlD := obsX B fa fn (He.frG g (He.asD g n))
def hookX (n : Nat) (B : PySem.W.Frag → Bool) (fa : List He.Fa) (fn : List He.DefD) : PySem.W.Hook where
  α := Bool × He.AlD
  obs := fun s => obsXG n B fa fn s.heap.get?
  val := fun _ => (true, He.valD fn)
  says := fun _ h => ∃ K : PySem.W.Frag, K.In h ∧ He.SaysD fa fn K ∧ B K = true
  of := fun _ _ e => ⟨_, He.frG_in, congrArg Prod.snd e, congrArg Prod.fst e⟩
  keeps := fun _ _ _ ⟨K, hK, c⟩ k => ⟨K, PySem.W.Frag.In.keeps hK k, c⟩
theorem obsXG_eq {n : Nat} {B : PySem.W.Frag → Bool} {fa : List He.Fa} {fn : List He.DefD} {g : Addr → Option Obj} {s : Shared} (h : ∀ a, g a = s.heap.get? a) : obsXG n B fa fn g = (hookX n B fa fn).obs s := by
  have e : g = s.heap.get? := funext h
  rw [e] <;> rfl

/-! ### what it looks at -/
/-- no list among the written objects -/
def noLst (K : PySem.W.Frag) : Bool := K.all fun p => match p.2.cls with
  | .type c => !decide (c = "list")
  | _ => true
theorem lookup_memA {α : Type} : ∀ {l : List (Addr × α)} {x : Addr} {a : α}, l.lookup x = some a → (x, a) ∈ l
  | [], _, _, h => by cases h
  | (y, b) :: l, x, a, h => by
    rw [List.lookup_cons] at h
    by_cases e : (x == y) = true
    · rw [e] at h; cases h; rw [eq_of_beq e]; exact List.mem_cons_self
    · rw [Bool.not_eq_true] at e; rw [e] at h; exact List.mem_cons_of_mem _ (lookup_memA h)
theorem noLst_ok {K : PySem.W.Frag} (h : noLst K = true) {a : Addr} {o : Obj} (e : K.lookup a = some o) : o.cls ≠ .type "list" := fun z => by
  have := List.all_eq_true.mp h _ (lookup_memA e)
  rw [z] at this
  simp at this
/-- a class of exceptions: isinstance, fields -/
def excB (K : PySem.W.Frag) (C : Addr) (fs : List Str) : Bool :=
  decide (PySem.W.findIn K (.ref C) "__getattribute__" = some (some (.builtin "BaseException.__getattribute__"))) && (decide (PySem.W.findIn K (.ref C) "__getattr__" = some none) && (decide (PySem.W.subIn K (.ref C) (.type "BaseException") = some true) && (PySem.W.hasDictIn K C &&
    (decide (PySem.W.findIn K (.ref C) "__class__" = some (some (.builtin "object.__class__"))) && (decide (PySem.W.specialIn K (.builtin "object.__class__") "__get__" = some (some (.builtin "getset_descriptor.__get__"))) && (decide (PySem.W.takesIn K (.builtin "object.__class__") = some true) &&
      (decide (PySem.W.mroIn K C (.type "object") = some true) && fs.all fun f => decide (PySem.W.findIn K (.ref C) f = some none))))))))
theorem excB_ok {K : PySem.W.Frag} {C : Addr} {fs : List Str} (h : excB K C fs = true) : ExcC K C ∧ ∀ f ∈ fs, PySem.W.findIn K (.ref C) f = some none := by
  unfold excB at h
  simp only [Bool.and_eq_true, decide_eq_true_eq, List.all_eq_true] at h
  obtain ⟨h1, h2, h3, h4, h5, h6, h7, h8, h9⟩ := h
  exact ⟨⟨h1, h2, h3, h4, h5, h6, h7, h8⟩, h9⟩
/-- its pairs -/
def cvOf (K : PySem.W.Frag) (own : Nat) (x : Str) (c : Nat) : Value := if c < own then .ref (He.ga K x) else .type x.toString
def pairB (K : PySem.W.Frag) (own : List Str) (le : Nat → Nat → Bool) (q : Str × Nat) : Bool :=
  decide (PySem.W.kitOne K (.type "NoneType") (cvOf K own.length q.1 q.2) = some false) && (List.range own.length).all fun e => decide (PySem.W.kitOne K (.ref (He.ga K (own.getD e Str.empty))) (cvOf K own.length q.1 q.2) = some (le e q.2)) && decide (PySem.W.exmOne K (.ref (He.ga K (own.getD e Str.empty))) (cvOf K own.length q.1 q.2) = some (le e q.2))
theorem pairB_ok {K : PySem.W.Frag} {own : List Str} {le : Nat → Nat → Bool} {q : Str × Nat} (h : pairB K own le q = true) : PySem.W.kitOne K (.type "NoneType") (cvOf K own.length q.1 q.2) = some false ∧
    ∀ e, e < own.length → PySem.W.kitOne K (.ref (He.ga K (own.getD e Str.empty))) (cvOf K own.length q.1 q.2) = some (le e q.2) ∧ PySem.W.exmOne K (.ref (He.ga K (own.getD e Str.empty))) (cvOf K own.length q.1 q.2) = some (le e q.2) := by
  unfold pairB at h
  simp only [Bool.and_eq_true, decide_eq_true_eq, List.all_eq_true, List.mem_range] at h
  exact h
/-- a class with an own __init__ -/
def oexB (K : PySem.W.Frag) (C : Addr) : Bool := (match K.lookup C with
  | some ⟨.type "type", _, .cls cd, sl⟩ => (match cd.mro, sl.toList with
    | .ref C' :: bm, [_, _, _, _, some (.builtin n), _] => C' == C && n == "ValueError.__new__" && !cd.hasDel && cd.hasDict && PySem.HandSPX.refsVE bm
    | _, _ => false)
  | _ => false) && (decide (PySem.W.findIn K (.ref C) "__setattr__" = some (some (.builtin "object.__setattr__"))) && (decide (PySem.W.subIn K (.ref C) (.type "BaseException") = some true) && (decide (PySem.W.typeIn K (.ref C) = some (.type "type")) && (PySem.W.keepIn K (.ref C) &&
    (decide (PySem.W.findIn K (.ref C) "__init__" = some (some (.ref (He.ma K C "__init__")))) && decide (PySem.W.typeIn K (.ref (He.ma K C "__init__")) = some (.type "function")))))))
theorem oexB_ok {K : PySem.W.Frag} {C : Addr} (h : oexB K C = true) : OexC K C ∧ PySem.W.findIn K (.ref C) "__init__" = some (some (.ref (He.ma K C "__init__"))) ∧ PySem.W.typeIn K (.ref (He.ma K C "__init__")) = some (.type "function") := by
  unfold oexB at h
  rw [Bool.and_eq_true] at h
  obtain ⟨h0, h⟩ := h
  simp only [Bool.and_eq_true, decide_eq_true_eq] at h
  obtain ⟨h1, h2, h3, h4, h5, h6⟩ := h
  refine ⟨⟨?_, h1, h2, h3, h4⟩, h5, h6⟩
  split at h0
  · next dd cd sl ho =>
    split at h0
    · next C' bm k0 k1 k2 k3 n k5 hm hs =>
      simp only [Bool.and_eq_true, beq_iff_eq, Bool.not_eq_true'] at h0
      obtain ⟨⟨⟨⟨rfl, rfl⟩, hdel⟩, hdct⟩, hr⟩ := h0
      obtain ⟨nm, bs, mro, ns, qn, hd, sn, sub, ab, col, del⟩ := cd
      dsimp only at hm hdel hdct
      subst hm hdel hdct
      have hsl : sl = #[k0, k1, k2, k3, some (.builtin "ValueError.__new__"), k5] := by
        obtain ⟨l⟩ := sl
        simp only at hs
        rw [hs]
      subst hsl
      exact ⟨_, _, _, _, _, _, _, _, _, _, _, _, _, _, _, ho, hr⟩
    · cases h0
  · cases h0

/-! ### own __init__s that store -/
section
variable {K : PySem.W.Frag} {P : Program} {w : World} {mg : Str → Option Value} {base : Heap}
theorem init1 {C fI : Addr} {fd : FuncData} {x qual a f : Str} {params : Arguments} {scope : Scope} {p1 p2 p3 p4 : Pos} (O : OexC K C) (hf : PySem.W.findIn K (.ref C) f = some none) (F : FunD K x qual params [.Assign [.Attribute (.Name "self" p1) f p2] (.Name a p3) p4] scope [] [] fI fd)
    (S : FnScope ["self", a] ["self", a] scope) (hda : (a == ("__debug__" : Str)) = false) (hca : (a == ("__classdict__" : Str)) = false) : FnOk P w K mg base (L2.CX P w) 1 fI fd ["self", a] (SpI C [f]) := by
  refine F.ok S (fun vs H Q E h => ?_) fun cdv A outer s H vs Q E hr h => ?_
  · obtain ⟨a, args, rfl, hl, _⟩ := h
    rw [List.length_cons, hl]; rfl
  · obtain ⟨p, args, rfl, hl, hp, q⟩ := h
    match args, hl with
    | [y], _ =>
      have v0 : PE (cxOf (L2.CX P w) P w K mg base ["self", a] qual scope fI cdv A outer s H E) (.Name "self" p1) (tVar 0) := pe_var rfl (by rcases S.par _ List.mem_cons_self with k | k; exact .inl k; exact .inr (.inl k))
      have v1 : PE (cxOf (L2.CX P w) P w K mg base ["self", a] qual scope fI cdv A outer s H E) (.Name a p3) (tVar 1) := pe_var rfl (by rcases S.par a (by simp) with k | k; exact .inl k; exact .inr (.inl k)) hda hca
      refine ⟨_, pss_one (ps_ost v0 v1 rfl), ?_⟩
      refine ⟨y, rfl, .ref p, rfl, p, C, rfl, O, hf, .inl ⟨hp, fun dx hd hne => ?_⟩⟩
      exact q _ dx upd_same ((upd_ne hne).trans upd_same) hd hne fun b h1 h2 => (upd_ne h1).trans (upd_ne h2)
theorem init2 {C fI : Addr} {fd : FuncData} {x qual a b f g : Str} {params : Arguments} {scope : Scope} {p1 p2 p3 p4 p5 p6 p7 p8 : Pos} (O : OexC K C) (hf : PySem.W.findIn K (.ref C) f = some none) (hg : PySem.W.findIn K (.ref C) g = some none)
    (F : FunD K x qual params [.Assign [.Attribute (.Name "self" p1) f p2] (.Name a p3) p4, .Assign [.Attribute (.Name "self" p5) g p6] (.Name b p7) p8] scope [] [] fI fd)
    (S : FnScope ["self", a, b] ["self", a, b] scope) (hda : (a == ("__debug__" : Str)) = false) (hca : (a == ("__classdict__" : Str)) = false) (hdb : (b == ("__debug__" : Str)) = false) (hcb : (b == ("__classdict__" : Str)) = false) : FnOk P w K mg base (L2.CX P w) 1 fI fd ["self", a, b] (SpI C [g, f]) := by
  refine F.ok S (fun vs H Q E h => ?_) fun cdv A outer s H vs Q E hr h => ?_
  · obtain ⟨a, args, rfl, hl, _⟩ := h
    rw [List.length_cons, hl]; rfl
  · obtain ⟨p, args, rfl, hl, hp, q⟩ := h
    match args, hl with
    | [y, z], _ =>
      have v0 : ∀ pp, PE (cxOf (L2.CX P w) P w K mg base ["self", a, b] qual scope fI cdv A outer s H E) (.Name "self" pp) (tVar 0) := fun _ => pe_var rfl (by rcases S.par _ List.mem_cons_self with k | k; exact .inl k; exact .inr (.inl k))
      have v1 : PE (cxOf (L2.CX P w) P w K mg base ["self", a, b] qual scope fI cdv A outer s H E) (.Name a p3) (tVar 1) := pe_var rfl (by rcases S.par a (by simp) with k | k; exact .inl k; exact .inr (.inl k)) hda hca
      have v2 : PE (cxOf (L2.CX P w) P w K mg base ["self", a, b] qual scope fI cdv A outer s H E) (.Name b p7) (tVar 2) := pe_var rfl (by rcases S.par b (by simp) with k | k; exact .inl k; exact .inr (.inl k)) hdb hcb
      refine ⟨_, pss_cons (ps_ost (v0 _) v1 rfl) (pss_one (ps_ost (v0 _) v2 rfl)), ?_⟩
      refine ⟨y, rfl, .ref p, rfl, p, C, rfl, O, hf, .inl ⟨hp, fun dx hd hne => ?_⟩⟩
      refine ⟨z, rfl, .ref p, rfl, p, C, rfl, O, hg, .inr ⟨dx, _, upd_same, (upd_ne hne).trans upd_same, by simp, ?_⟩⟩
      exact q _ dx ((upd_ne (Ne.symm hne)).trans upd_same) upd_same hd hne fun b h1 h2 => (upd_ne h2).trans ((upd_ne h1).trans (upd_ne h2))
end
/-! ### scopes -/
def fnScB (N P : List Str) (sc : Scope) : Bool := (match sc.kind with | .function => true | _ => false) && (!sc.isCoroutine && (!sc.isGenerator && (decide N.Nodup && (decide (N.take P.length = P) &&
  ((P.all fun x => decide (sc.names.lookup x = some .local) || decide (sc.names.lookup x = some .cell)) && sc.names.all fun y => !decide (y.2 = .free))))))
theorem fnScB_ok {N P : List Str} {sc : Scope} (h : fnScB N P sc = true) : FnScope N P sc := by
  unfold fnScB at h
  simp only [Bool.and_eq_true, decide_eq_true_eq, Bool.not_eq_true', List.all_eq_true, Bool.or_eq_true, decide_eq_false_iff_not] at h
  obtain ⟨h1, h2, h3, h4, h5, h6, h7⟩ := h
  refine ⟨?_, h2, h3, h4, h5, h6, h7⟩
  split at h1
  · assumption
  · cases h1

/-! ### the defs of a text -/
structure Dd where
  x : Str
  N : List Str
  ps : List Str
  st : Stmt
def Dd.S (d : Dd) : Sc := ⟨d.N, defScope d.st, true, defScope d.st⟩
def Dd.fn (d : Dd) : He.DefD := ⟨(d.x, none), d.x, d.x, defArgs d.st, defBody d.st, defScope d.st, [], []⟩
def Dd.fd (G : Gi) (d : Dd) : Fd := ⟨d.ps.length, d.N.length, (ssOf G d.S 100 (defBody d.st)).getD .nil⟩
def Dd.ok (G : Gi) (d : Dd) : Bool := fnScB d.N d.ps (defScope d.st) && (ssOf G d.S 100 (defBody d.st)).isSome
theorem def_at {G : Gi} {T : Tab} {B : List Fd} {mg : Str → Option Value} {i : Nat} {d : Dd} (hm : mg d.x = some (.ref (He.fAd T.K (d.x, none)))) (F : ∃ fd, FunD T.K d.x d.x (defArgs d.st) (defBody d.st) (defScope d.st) [] [] (He.fAd T.K (d.x, none)) fd) (ok : d.ok G = true) (hb : B[i]? = some (d.fd G))
    (hbind : ∀ (kV doc pm : Value) (an : Option Addr) (cdv ct : Value) (us : List Value), us.length = d.ps.length → bindArgs (PySem.W.fnOf d.x d.x (defArgs d.st) (defBody d.st) (defScope d.st) .none kV doc pm an cdv ct) ⟨us, []⟩ = pure (d.ps.zip us)) : DefAt G T B mg d.x i := by
  obtain ⟨fd, F⟩ := F
  unfold Dd.ok at ok
  rw [Bool.and_eq_true] at ok
  obtain ⟨h1, h2⟩ := ok
  obtain ⟨b, hb2⟩ := Option.isSome_iff_exists.mp h2
  refine ⟨_, fd, d.x, _, _, _, d.N, d.ps, d.fd G, 100, hm, F, fnScB_ok h1, hb, rfl, rfl, ?_, FunD.bindsN F hbind⟩
  show ssOf G d.S 100 (defBody d.st) = some ((ssOf G d.S 100 (defBody d.st)).getD .nil)
  rw [hb2]; rfl

/-! ### the law's end -/
theorem FnOk.toCX0 {P : Program} {w : World} {K : PySem.W.Frag} {mg : Str → Option Value} {base : Heap} {k : Nat} {f : Addr} {fd : FuncData} {ps : List Str} {sp : Sp} (F : FnOk P w K mg base (L2.CX P w) k f fd ps sp) :
    FnOk P w K mg base CX0 k f fd ps fun vs H Q _ => sp vs H Q fun _ _ _ => False where
  len := fun vs H Q E h => F.len vs H Q _ h
  run := fun A outer s H args us vs Q E hr e b r h => codeAny_mono (F.run A outer s H args us vs Q _ hr e b r h) fun r s' q => by
    cases r with
    | ok fl => cases fl <;> exact q
    | error e => obtain ⟨_, _, _, _, _, _, _, _, _, _, _, _, z⟩ := q; exact z
theorem law_sp {T : Tab} {Z : Zi} {B : List Fd} {n f : Nat} (nl : noLst T.K = true) {H : Hp} {a : Addr} {ns : List Int} (hO : Only H) (hS : SqL T.K H a (ns.map V.int)) (hw : WPc Z B n f [.ref 0] [.fro (ns.map D.int)] (fun d _ => d = .bl true) fun _ _ _ => False) :
    spF T 1 (WPc Z B n f) [.ref a] H (fun v _ => v = .bl true) fun _ _ _ => False := by
  have rel : RelDs T [a] H (ns.map D.int) (ns.map V.int) := by
    clear hS hw
    induction ns with
    | nil => exact .nil
    | cons n ns ih => exact .cons (.int n) ih
  have hf : ∃ o, H a = some (.frz o (.lst (ns.map V.int))) := by
    rcases hS with (h | ⟨o, h⟩) | ⟨o, its, n, h, hc, _⟩
    · rcases hO a with z | ⟨o, xs, z⟩
      · rw [z] at h; cases h
      · rw [z] at h; cases h
    · exact ⟨o, h⟩
    · exact absurd hc (noLst_ok nl h)
  obtain ⟨o, hf⟩ := hf
  have R : Rp T [a] [.fro (ns.map D.int)] H := ⟨rfl, by simp, fun i b o' h1 h2 => by
    cases i with
    | zero => cases h1; cases h2; exact .fro hf rel
    | succ i => simp at h1⟩
  exact ⟨rfl, [a], _, [.ref 0], _, _, R, .cons (.ref rfl) .nil, hw, fun ρ' H' h' d v _ rd q => by subst q; exact relB rd, fun _ _ _ _ _ _ _ _ _ q => q⟩
end Mi

set_option Elab.async false
set_option linter.all false
set_option maxRecDepth 100000
set_option maxHeartbeats 4000000
/-! Mi: a whole program's data, and what the head tells of it. -/
namespace Mi
open PySem PySem.Spec PyProof.Rows L2

inductive Cv where
  | int (i : Int) | str (x : Str)
structure Pd where
  own : List Str
  anc : List (List Nat)
  xf : List (List Str)
  more : List Str
  defs : List Dd
  inits : List He.DefD
  cst : List (Str × Cv)
  free : List Str
def Cv.d : Cv → D
  | .int i => .int i
  | .str x => .str x.cps.toList
def ixs (l : List Str) : List (Str × Nat) := l.zipIdx
def Pd.fnames (p : Pd) : List Str := p.defs.map (·.x)
def Pd.G (p : Pd) : Gi := ⟨ixs p.fnames, ixs p.own, ixs (p.own ++ p.more), p.cst.map fun q => (q.1, q.2.d), p.free⟩
def Pd.Z (p : Pd) : Zi := ⟨p.own.length, fun e c => (p.anc.getD e []).contains c, fun c ds => match p.xf.getD c [] with
    | [] => if ds.length ≤ 1000 then some [] else none
    | l => if ds.length = l.length ∧ ds.length ≤ 1000 then some ds.reverse else none, fun c f => (p.xf.getD c []).findIdx? (· == f)⟩
def Pd.T (p : Pd) (K : PySem.W.Frag) : Tab := ⟨K, fun c => He.ga K (p.own.getD c Str.empty), fun c => p.xf.getD c []⟩
def Pd.B (p : Pd) : List Fd := p.defs.map (Dd.fd p.G)
def Pd.fa (p : Pd) : List He.Fa := p.fnames.map .glo ++ (p.own.map .glo ++ (p.free.map .free ++ p.cst.map fun q => match q.2 with
  | .int i => .int q.1 i
  | .str x => .str q.1 x))
def Pd.fn (p : Pd) : List He.DefD := p.defs.map Dd.fn ++ p.inits
def clsB (p : Pd) (K : PySem.W.Frag) (c : Nat) : Bool := let x := p.own.getD c Str.empty
  excB K (He.ga K x) (p.xf.getD c []) && (match p.xf.getD c [] with
    | [] => PySem.W.excIn K (He.ga K x) He.veBase "ValueError.__new__" && PySem.W.keepIn K (.ref (He.ga K x)) && decide (PySem.W.subIn K (.ref (He.ga K x)) (.type "BaseException") = some true) && decide (PySem.W.typeIn K (.ref (He.ga K x)) = some (.type "type"))
    | _ => oexB K (He.ga K x))
/-- what else is looked at -/
def Pd.bb (p : Pd) (K : PySem.W.Frag) : Bool := noLst K && ((List.range p.own.length).all (clsB p K) && (ixs (p.own ++ p.more)).all (pairB K p.own fun e c => (p.anc.getD e []).contains c))
/-- what hangs on no run -/
def Pd.ok (p : Pd) : Bool := p.defs.all (fun d => d.ok p.G) && (p.xf.all (fun l => decide l.Nodup && (!l.contains "__class__" && decide (l.length ≤ 1000))) && (p.free.all (fun x => !decide (x = ("__name__" : Str))) && (p.more.all fun x => decide (bootBuiltins x = some (.type x.toString)) && (!decide (x = ("__name__" : Str)) && p.free.contains x))))
theorem ixs_mem {l : List Str} {x : Str} {c : Nat} (h : (x, c) ∈ ixs l) : l[c]? = some x := by
  have := List.mem_zipIdx h
  obtain ⟨_, h2, h3⟩ := this
  simp at h2 h3
  rw [h3, List.getElem?_eq_getElem h2]
theorem ixs_in {l : List Str} {x : Str} {c : Nat} (h : l[c]? = some x) : (x, c) ∈ ixs l := by
  obtain ⟨hc, e⟩ := List.getElem?_eq_some_iff.mp h
  have : (ixs l)[c]? = some (x, c) := by
    unfold ixs
    rw [List.getElem?_zipIdx, h]; simp
  exact List.mem_of_getElem? this
def BindOk (d : Dd) : Prop := ∀ (kV doc pm : Value) (an : Option Addr) (cdv ct : Value) (us : List Value), us.length = d.ps.length → bindArgs (PySem.W.fnOf d.x d.x (defArgs d.st) (defBody d.st) (defScope d.st) .none kV doc pm an cdv ct) ⟨us, []⟩ = pure (d.ps.zip us)
section
variable {p : Pd} {K : PySem.W.Frag} {h : Heap} {mg : Str → Option Value} {P : Program} {w : World} {base : Heap}
theorem fact_mem {fa : List He.Fa} {fn : List He.DefD} (c : He.SaysD fa fn K) {f : He.Fa} (hf : f ∈ fa) : f.ok K = true := by
  obtain ⟨i, hi⟩ := List.getElem?_of_mem hf
  exact c.fact i hi
theorem glo_at (X : K.In h) (N : h.Ns mainGlobals mg) (c : He.SaysD p.fa p.fn K) {x : Str} (hx : x ∈ p.fnames ∨ x ∈ p.own) : mg x = some (.ref (He.ga K x)) := by
  refine He.glo_ok X N (fact_mem c ?_)
  unfold Pd.fa
  rcases hx with hx | hx
  · exact List.mem_append_left _ (List.mem_map_of_mem hx)
  · exact List.mem_append_right _ (List.mem_append_left _ (List.mem_map_of_mem hx))
theorem free_at (X : K.In h) (N : h.Ns mainGlobals mg) (c : He.SaysD p.fa p.fn K) {x : Str} (hx : x ∈ p.free) : mg x = none := by
  refine He.free_ok X N (fact_mem c ?_)
  unfold Pd.fa
  exact List.mem_append_right _ (List.mem_append_right _ (List.mem_append_left _ (List.mem_map_of_mem hx)))
/-- an own __init__'s facts -/
def InitOk (p : Pd) (K : PySem.W.Frag) (P : Program) (w : World) (mg : Str → Option Value) (base : Heap) : Prop := ∀ c, c < p.own.length → p.xf.getD c [] ≠ [] → ∃ fd ps k, FnOk P w K mg base (L2.CX P w) k (He.ma K (He.ga K (p.own.getD c Str.empty)) "__init__") fd ps (SpI (He.ga K (p.own.getD c Str.empty)) (p.xf.getD c [])) ∧ k ≤ 2 ∧ Binds K fd ps []
theorem cls_at (hB : p.bb K = true) {c : Nat} (hc : c < p.own.length) : clsB p K c = true := by
  unfold Pd.bb at hB
  simp only [Bool.and_eq_true, List.all_eq_true, List.mem_range] at hB
  exact hB.2.1 c hc
theorem xf_at (ok : p.ok = true) {c : Nat} : (p.xf.getD c []).Nodup ∧ ("__class__" : Str) ∉ p.xf.getD c [] ∧ (p.xf.getD c []).length ≤ 1000 := by
  unfold Pd.ok at ok
  simp only [Bool.and_eq_true, List.all_eq_true] at ok
  cases e : p.xf[c]? with
  | none =>
    have e2 : p.xf.getD c [] = [] := by rw [List.getD_eq_getElem?_getD, e]; rfl
    rw [e2]
    exact ⟨List.nodup_nil, by simp, by simp⟩
  | some l =>
    have e2 : p.xf.getD c [] = l := by rw [List.getD_eq_getElem?_getD, e]; rfl
    rw [e2]
    have := ok.2.1 l (List.mem_of_getElem? e)
    simp only [decide_eq_true_eq, Bool.not_eq_true'] at this
    exact ⟨this.1, by simpa using this.2.1, this.2.2⟩
theorem facts0_of (X : K.In h) (N : h.Ns mainGlobals mg) (c : He.SaysD p.fa p.fn K) (hB : p.bb K = true) (ok : p.ok = true) (hI : InitOk p K P w mg base) : Facts0 p.G (p.T K) p.Z P w mg base where
  xcs := fun x cc hx => by
    have e := ixs_mem hx
    obtain ⟨hc, _⟩ := List.getElem?_eq_some_iff.mp e
    have eg : p.own.getD cc Str.empty = x := by rw [List.getD_eq_getElem?_getD, e]; rfl
    have k := cls_at hB hc
    unfold clsB at k
    rw [Bool.and_eq_true, eg] at k
    obtain ⟨k1, k2⟩ := k
    have hm := glo_at X N c (.inr (List.mem_of_getElem? e))
    show mg x = some (.ref (He.ga K (p.own.getD cc Str.empty))) ∧ PySem.W.keepIn K (.ref (He.ga K (p.own.getD cc Str.empty))) = true ∧ PySem.W.subIn K (.ref (He.ga K (p.own.getD cc Str.empty))) (.type "BaseException") = some true ∧ PySem.W.typeIn K (.ref (He.ga K (p.own.getD cc Str.empty))) = some (.type "type") ∧ _
    rw [eg]
    split at k2
    · next ex =>
      simp only [Bool.and_eq_true, decide_eq_true_eq] at k2
      obtain ⟨⟨⟨q1, q2⟩, q3⟩, q4⟩ := k2
      refine ⟨hm, q2, q3, q4, .plain (bmB := He.veBase) (B := "ValueError") (newId := "ValueError.__new__") (initId := "ValueError.__init__") F.excBase_ValueError ?_ fun ds fs hf => ?_⟩
      · show PySem.W.excIn K (He.ga K (p.own.getD cc Str.empty)) He.veBase "ValueError.__new__" = true
        rw [eg]; exact q1
      · have hf : (match p.xf.getD cc [] with
            | [] => if ds.length ≤ 1000 then some [] else none
            | l => if ds.length = l.length ∧ ds.length ≤ 1000 then some ds.reverse else none) = some fs := hf
        rw [ex] at hf
        obtain ⟨h1, h2⟩ := itd hf
        cases h2
        exact ⟨rfl, h1⟩
    · next ex =>
      obtain ⟨O, iC, tI⟩ := oexB_ok k2
      obtain ⟨fd, ps, kk, hF, hk, hb⟩ := hI cc hc ex
      rw [eg] at hF
      refine ⟨hm, O.kC, O.exC, O.tyC, .own (fI := He.ma K (He.ga K x) "__init__") (fd := fd) (ps := ps) (k := kk) ?_ ?_ tI ?_ hk hb fun ds fs hf => ?_⟩
      · show OexC K (He.ga K (p.own.getD cc Str.empty))
        rw [eg]; exact O
      · show PySem.W.findIn K (.ref (He.ga K (p.own.getD cc Str.empty))) "__init__" = _
        rw [eg]; exact iC
      · show FnOk P w K mg base (L2.CX P w) kk _ fd ps (SpI (He.ga K (p.own.getD cc Str.empty)) (p.xf.getD cc []))
        rw [eg]; exact hF
      · have hf : (match p.xf.getD cc [] with
            | [] => if ds.length ≤ 1000 then some [] else none
            | l => if ds.length = l.length ∧ ds.length ≤ 1000 then some ds.reverse else none) = some fs := hf
        split at hf
        · next e0 => exact absurd e0 ex
        · obtain ⟨⟨h1, h3⟩, h2⟩ := itd hf
          cases h2
          refine ⟨rfl, h1, ?_, h3⟩
          rw [h1]
          exact List.length_pos_iff.mpr ex
  fre := fun x hx => by
    refine ⟨free_at X N c hx, ?_⟩
    unfold Pd.ok at ok
    simp only [Bool.and_eq_true, List.all_eq_true] at ok
    have := ok.2.2.1 x hx
    simpa using this
  cst := fun x d hx => by
    obtain ⟨q, hq, e⟩ := List.mem_map.mp hx
    have hf : (match q.2 with
      | .int i => He.Fa.int q.1 i
      | .str x => He.Fa.str q.1 x) ∈ p.fa := by
      unfold Pd.fa
      exact List.mem_append_right _ (List.mem_append_right _ (List.mem_append_right _ (List.mem_map.mpr ⟨q, hq, rfl⟩)))
    have f := fact_mem c hf
    obtain ⟨q1, q2⟩ := q
    cases e
    cases q2 with
    | int i =>
      obtain ⟨t, ht⟩ := He.int_ok X N f
      exact ⟨_, .int i, ht, ⟨t, rfl⟩, fun _ _ => .int i⟩
    | str z =>
      obtain ⟨t, ht⟩ := He.str_ok X N f
      exact ⟨_, .str z, ht, ⟨t, rfl⟩, fun _ _ => .str rfl⟩
  cls := fun x cc hx => by
    have e := ixs_mem hx
    have pr : pairB K p.own (fun e c => (p.anc.getD e []).contains c) (x, cc) = true := by
      unfold Pd.bb at hB
      simp only [Bool.and_eq_true, List.all_eq_true] at hB
      exact hB.2.2 _ hx
    obtain ⟨p1, p2⟩ := pairB_ok pr
    by_cases hc : cc < p.own.length
    · have e0 : p.own[cc]? = some x := by rw [List.getElem?_append_left hc] at e; exact e
      have ev : cvOf K p.own.length x cc = .ref (He.ga K x) := if_pos hc
      rw [ev] at p1 p2
      exact ⟨_, .ref (He.ga K x), .inl (glo_at X N c (.inr (List.mem_of_getElem? e0))), rfl, fun u hu => hu, p1, p2⟩
    · have e0 : x ∈ p.more := by rw [List.getElem?_append_right (by omega)] at e; exact List.mem_of_getElem? e
      have ev : cvOf K p.own.length x cc = .type x.toString := if_neg hc
      rw [ev] at p1 p2
      unfold Pd.ok at ok
      simp only [Bool.and_eq_true, List.all_eq_true] at ok
      have o := ok.2.2.2 x e0
      simp only [Bool.and_eq_true, decide_eq_true_eq, Bool.not_eq_true', decide_eq_false_iff_not] at o
      exact ⟨_, .ty x.toString, .inr ⟨free_at X N c (free_mem o.2.2), o.1, o.2.1⟩, rfl, fun u hu => hu, p1, p2⟩
  own := fun e he => by
    have k := cls_at hB he
    unfold clsB at k
    rw [Bool.and_eq_true] at k
    obtain ⟨q1, q2⟩ := excB_ok k.1
    obtain ⟨n1, n2, _⟩ := xf_at (c := e) ok
    refine ⟨q1, n2, n1, fun f i hf => ?_⟩
    have hf : (p.xf.getD e []).findIdx? (· == f) = some i := hf
    obtain ⟨hi, e1, _⟩ := List.findIdx?_eq_some_iff_getElem.mp hf
    have e2 : (p.xf.getD e [])[i]? = some f := by rw [List.getElem?_eq_getElem hi, eq_of_beq e1]
    exact ⟨e2, q2 f (List.mem_of_getElem? e2)⟩
theorem defs_at (X : K.In h) (N : h.Ns mainGlobals mg) (c : He.SaysD p.fa p.fn K) (ok : p.ok = true) (hb : ∀ d ∈ p.defs, BindOk d) : ∀ x f, (x, f) ∈ p.G.fns → DefAt p.G (p.T K) p.B mg x f := fun x f hx => by
  have e := ixs_mem hx
  have e' : (p.defs.map (·.x))[f]? = some x := e
  rw [List.getElem?_map] at e'
  obtain ⟨d, ed, rfl⟩ := Option.map_eq_some_iff.mp e'
  have hd := List.mem_of_getElem? ed
  have F := c.def_ f (d := d.fn) (by
    have hl : f < (p.defs.map Dd.fn).length := by rw [List.length_map]; exact (List.getElem?_eq_some_iff.mp ed).1
    show (p.defs.map Dd.fn ++ p.inits)[f]? = some d.fn
    rw [List.getElem?_append_left hl, List.getElem?_map, ed]; rfl)
  refine def_at (d := d) ?_ F ?_ ?_ (hb d hd)
  · exact glo_at X N c (.inl (List.mem_of_getElem? e))
  · unfold Pd.ok at ok
    simp only [Bool.and_eq_true, List.all_eq_true] at ok
    exact ok.1 d hd
  · show (p.defs.map (Dd.fd p.G))[f]? = _
    rw [List.getElem?_map, ed]; rfl
/-- the law's promise -/
theorem law_fn {x s : Str} {f n : Nat} {fa : Addr} (X : K.In h) (N : h.Ns mainGlobals mg) (c : He.SaysD p.fa p.fn K) (hB : p.bb K = true) (ok : p.ok = true) (hb : ∀ d ∈ p.defs, BindOk d) (hI : ∀ base : Heap, InitOk p K P w mg base) (hx : (x, f) ∈ p.G.fns) (hs : (p.defs[f]?.map (·.ps)) = some [s]) (hm : mg x = some (.ref fa))
    (hw : ∀ ns : List Int, ns.length ≤ 63 → WPc p.Z p.B n f [.ref 0] [.fro (ns.map D.int)] (fun d _ => d = .bl true) fun _ _ _ => False) :
    ∃ (fd : FuncData) (sp : Sp), (∀ (s0 : Shared) (u : Value), BindsTo s0 fd ⟨[u], []⟩ [(s, u)]) ∧ (∀ (H : Hp) (a : Addr) (ns : List Int), ns.length ≤ 63 → Only H → SqL K H a (ns.map V.int) → sp [.ref a] H (fun v _ => v = .bl true) fun _ _ _ => False) ∧
      ∀ base : Heap, K.In base → base.Ns mainGlobals mg → FnOk P w K mg base CX0 (n + 3) fa fd [s] sp := by
  have e := ixs_mem hx
  have e' : (p.defs.map (·.x))[f]? = some x := e
  rw [List.getElem?_map] at e'
  obtain ⟨d, ed, rfl⟩ := Option.map_eq_some_iff.mp e'
  have hd := List.mem_of_getElem? ed
  have eps : d.ps = [s] := by rw [ed] at hs; exact Option.some.inj hs
  obtain ⟨fd, F⟩ := c.def_ f (d := d.fn) (by
    have hl : f < (p.defs.map Dd.fn).length := by rw [List.length_map]; exact (List.getElem?_eq_some_iff.mp ed).1
    show (p.defs.map Dd.fn ++ p.inits)[f]? = some d.fn
    rw [List.getElem?_append_left hl, List.getElem?_map, ed]; rfl)
  have hg := glo_at X N c (.inl (List.mem_of_getElem? e))
  rw [hg] at hm
  cases hm
  have nl : noLst K = true := by unfold Pd.bb at hB; exact (Bool.and_eq_true_iff.mp hB).1
  have hbd := hb d hd
  refine ⟨fd, fun vs H Q _ => spF (p.T K) 1 (WPc p.Z p.B n f) vs H Q fun _ _ _ => False, fun s0 u => ?_, fun H a ns hl hO hS => law_sp (T := p.T K) nl hO hS (hw ns hl), fun base KB NB => ?_⟩
  · have q := FunD.bindsA (ps := d.ps) F hbd s0 [u] (by rw [eps]; rfl)
    rw [eps] at q
    exact q
  · have okd : d.ok p.G = true := by
      unfold Pd.ok at ok
      simp only [Bool.and_eq_true, List.all_eq_true] at ok
      exact ok.1 d hd
    have F0 := facts0_of (P := P) (w := w) (base := base) X N c hB ok (hI base)
    have D0 := defs_at X N c ok hb
    unfold Dd.ok at okd
    rw [Bool.and_eq_true] at okd
    obtain ⟨h1, h2⟩ := okd
    obtain ⟨b, hb2⟩ := Option.isSome_iff_exists.mp h2
    have hbB : p.B[f]? = some (d.fd p.G) := by
      show (p.defs.map (Dd.fd p.G))[f]? = _
      rw [List.getElem?_map, ed]; rfl
    have txt : ssOf p.G ⟨d.N, defScope d.st, true, defScope d.st⟩ 100 (defBody d.st) = some (d.fd p.G).body := by
      show ssOf p.G d.S 100 (defBody d.st) = some ((ssOf p.G d.S 100 (defBody d.st)).getD .nil)
      rw [hb2]; rfl
    have sc := fnScB_ok h1
    rw [eps] at sc
    refine FnOk.toCX0 ?_
    cases n with
    | zero => exact fn_zero (T := p.T K) (ps := [s])
    | succ n => exact fn_deep (T := p.T K) (ps := [s]) (by omega) F sc hbB (by show d.ps.length = _; rw [eps]) rfl txt (facts_of D0 F0 n)
end
end Mi

set_option Elab.async false
set_option linter.all false
set_option maxRecDepth 100000
set_option maxHeartbeats 4000000
/-! Mi: what operations give. -/
namespace Mi
open PySem PySem.Spec PyProof.Rows L2

variable {h : Hh}
theorem asK_of {d : D} {ds : List D} (e : asL h d = some ds) : asK h d = none := by
  cases d with
  | ref i =>
    unfold asL at e
    dsimp only at e
    unfold asK
    dsimp only
    split at e
    · next e1 => rw [e1]
    · next e1 => rw [e1]
    · cases e
  | _ => cases e
theorem asL_at {c : Nat} {ds : List D} (e : h[c]? = some (.lst ds)) : asL h (.ref c) = some ds := by
  simp only [asL, e]
theorem asL_fro {c : Nat} {ds : List D} (e : h[c]? = some (.fro ds)) : asL h (.ref c) = some ds := by
  simp only [asL, e]
theorem intS_i {i : Int} : intS h [.int i] = some (.int i, h) := rfl
theorem intS_b {b : Bool} : intS h [.bl b] = some (.int (if b then 1 else 0), h) := rfl
theorem absS_i {i : Int} : absS h [.int i] = some (.int (if i < 0 then -i else i), h) := rfl
theorem lenS_ref {c : Nat} {ds : List D} (e : asL h (.ref c) = some ds) : lenS h [.ref c] = some (.int ds.length, h) := by
  unfold lenS
  dsimp only
  rw [asK_of e, e]; rfl
theorem lenS_tup {ds : List D} : lenS h [.tup ds] = some (.int ds.length, h) := rfl
theorem ixS_ref {c : Nat} {ds : List D} {i : Int} {d : D} (e : asL h (.ref c) = some ds) (hi : atI ds i = some d) : ixS h (.ref c) (.int i) = some (d, h) := by
  unfold ixS
  dsimp only
  rw [asK_of e, e]
  dsimp only
  rw [hi]; rfl
theorem ixS_tup {ds : List D} {i : Int} {d : D} (hi : atI ds i = some d) : ixS h (.tup ds) (.int i) = some (d, h) := by
  unfold ixS
  dsimp only
  rw [hi]; rfl
theorem ixN_of {n : Nat} {i : Int} (h0 : 0 ≤ i) (h1 : i < n) : ixN n i = some i.toNat := by
  unfold ixN
  rw [if_pos h0, if_pos h1]
theorem ixN_nat {n i : Nat} (h1 : i < n) : ixN n (i : Int) = some i := by
  rw [ixN_of (by omega) (by omega), Int.toNat_natCast]
theorem atI_of {α : Type} {xs : List α} {i : Int} {d : α} (h0 : 0 ≤ i) (e : xs[i.toNat]? = some d) : atI xs i = some d := by
  have := (List.getElem?_eq_some_iff.mp e).1
  unfold atI
  rw [ixN_of h0 (by omega)]
  exact e
theorem atI_nat {α : Type} {xs : List α} {i : Nat} {d : α} (e : xs[i]? = some d) : atI xs (i : Int) = some d := atI_of (by omega) (by rw [Int.toNat_natCast]; exact e)
theorem modS_p {i j : Int} (hj : 0 < j) : modS h (.int i) (.int j) = some (.int (i % j), h) := if_pos hj
theorem log2_lt {i : Int} {n : Nat} (h : i.natAbs < 2 ^ (n + 1)) : i.natAbs.log2 < n + 1 := by
  by_cases e : i.natAbs = 0
  · rw [e]; simp
  · exact (Nat.log2_lt e).mpr h
theorem divS_p {i j : Int} (hj : 0 < j) (h2 : j.natAbs < 2 ^ 9000) : divS h (.int i) (.int j) = some (.int (i / j), h) := if_pos ⟨hj, log2_lt h2⟩
theorem mulS_p {i j : Int} (h1 : i.natAbs < 2 ^ 100) (h2 : j.natAbs < 2 ^ 100) : mulS h (.int i) (.int j) = some (.int (i * j), h) := if_pos (by
  have a := log2_lt (n := 99) h1
  have b := log2_lt (n := 99) h2
  omega)
theorem addS_i {i j : Int} : addS h (.int i) (.int j) = some (.int (i + j), h) := rfl
theorem subS_i {i j : Int} : subS h (.int i) (.int j) = some (.int (i - j), h) := rfl
theorem powS_p {i j : Int} (h1 : 0 ≤ j) (h2 : ((i.natAbs.log2 + 1 : Nat) : Int) * j ≤ 2 ^ 27) : powS h (.int i) (.int j) = some (.int (i ^ j.toNat), h) := if_pos ⟨h1, h2⟩
theorem pow18 : powS h (.int 10) (.int 18) = some (.int (10 ^ 18), h) := powS_p (by decide) (by decide +kernel)
theorem pow60 : powS h (.int 10) (.int 60) = some (.int (10 ^ 60), h) := powS_p (by decide) (by decide +kernel)
theorem pow1200 : powS h (.int (10 ^ 60)) (.int 20) = some (.int ((10 ^ 60) ^ 20), h) := powS_p (by decide) (by decide +kernel)
theorem geS_i {i j : Int} : geS h (.int i) (.int j) = some (.bl (decide (j ≤ i)), h) := rfl
theorem gtS_i {i j : Int} : gtS h (.int i) (.int j) = some (.bl (decide (j < i)), h) := rfl
theorem ltS_i {i j : Int} : ltS h (.int i) (.int j) = some (.bl (decide (i < j)), h) := rfl
theorem leS_i {i j : Int} : leS h (.int i) (.int j) = some (.bl (decide (i ≤ j)), h) := rfl
theorem truD_b {b : Bool} : truD h (.bl b) = some b := rfl

/-! ### draws: the same in each text -/
def bSource : Fd := ⟨1, 3, (.cons (.asg (.n 1) (.sl (.v 0) .no (.so (.k (.int 63)))))
  (.cons (.loop (.n 2) (.r1 (.bi .len (.cons (.v 1) .nil))) (.cons (.ite (.op .ge (.bi .abs (.cons (.op .ix (.v 1) (.v 2)) .nil)) (.op .pow (.k (.int 10)) (.k (.int 18)))) (.cons (.sub (.v 1) (.v 2) (.op .mod (.bi .int (.cons (.op .ix (.v 1) (.v 2)) .nil)) (.op .pow (.op .pow (.k (.int 10)) (.k (.int 60))) (.k (.int 20)))))
  .nil) .nil)
  .nil))
  (.cons (.ite (.op .eq (.v 1) (.lst .nil)) (.cons (.asg (.n 1) (.lst (.cons (.k (.int 0)) .nil)))
  .nil) .nil)
  (.cons (.ret (.lst (.cons (.v 1) (.cons (.k (.int 0)) .nil))))
  .nil))))⟩
def bDraw : Fd := ⟨2, 7, (.cons (.asg (.t (.cons (.n 2) (.cons (.n 3) .nil))) (.v 0))
  (.cons (.asg (.n 4) (.op .mod (.bi .int (.cons (.v 3) .nil)) (.bi .len (.cons (.v 2) .nil))))
  (.cons (.asg (.n 5) (.op .ix (.v 2) (.v 4)))
  (.cons (.sub (.v 0) (.k (.int 1)) (.op .add (.v 3) (.k (.int 1))))
  (.cons (.ite (.op .ge (.v 5) (.op .pow (.k (.int 10)) (.k (.int 18)))) (.cons (.sub (.v 2) (.v 4) (.op .div (.v 5) (.v 1)))
  (.cons (.ret (.op .mod (.bi .int (.cons (.v 5) .nil)) (.v 1)))
  .nil)) .nil)
  (.cons (.asg (.n 6) (.op .mod (.bi .int (.cons (.op .add (.op .add (.op .mul (.op .mod (.bi .int (.cons (.v 5) .nil)) (.k (.int 2147483629))) (.k (.int 48271))) (.op .mul (.op .mul (.v 3) (.v 3)) (.k (.int 69621)))) (.k (.int 11))) .nil)) (.k (.int 2147483647))))
  (.cons (.asg (.n 6) (.op .mod (.bi .int (.cons (.op .mul (.v 6) (.v 6)) .nil)) (.k (.int 2147483629))))
  (.cons (.asg (.n 6) (.op .mod (.bi .int (.cons (.op .mul (.v 6) (.v 6)) .nil)) (.k (.int 2147483587))))
  (.cons (.ret (.op .mod (.bi .int (.cons (.v 6) .nil)) (.v 1)))
  .nil)))))))))⟩
/-- a place to draw from: at s, with its cells at c -/
structure Src (h : Hh) (s c : Nat) (t : Int) (cells : List Int) : Prop where
  ne : s ≠ c
  src : h[s]? = some (.lst [.ref c, .int t])
  cel : h[c]? = some (.lst (cells.map D.int))
  pos : cells ≠ []
  t0 : 0 ≤ t
  lt : cells.length ≤ 63
theorem abs_lt {i : Int} {n : Nat} (h0 : 0 ≤ i) (h1 : i < (n : Int)) : i.natAbs < n := by omega
theorem draw_w {Z : Zi} {B : List Fd} {n f : Nat} (hB : B[f]? = some bDraw) {h : Hh} {s c : Nat} {t lim : Int} {cells : List Int} (R : Src h s c t cells) (ht : t < 1000000000) (h1 : 0 < lim) (h2 : lim < 1000000000) {Q : PQ} {Qx : PX}
    (k : ∀ (r : Int) (cells' : List Int), 0 ≤ r → r < lim → cells'.length = cells.length → Q (.int r) ((h.set s (.lst [.ref c, .int (t + 1)])).set c (.lst (cells'.map D.int)))) : WPc Z B (n + 1) f [.ref s, .int lim] h Q Qx := by
  unfold WPc
  rw [hB]
  refine ⟨rfl, ?_⟩
  unfold bDraw
  have hs := asL_at R.src
  have hc := asL_at R.cel
  have hl : 0 < cells.length := List.length_pos_iff.mpr R.pos
  have p0 : 0 ≤ t % (cells.length : Int) := Int.emod_nonneg _ (by omega)
  have p1 : t % (cells.length : Int) < cells.length := Int.emod_lt_of_pos _ (by omega)
  obtain ⟨cell, hcell⟩ : ∃ cell, cells[(t % (cells.length : Int)).toNat]? = some cell := ⟨_, List.getElem?_eq_getElem (by omega)⟩
  have hm : (cells.map D.int)[(t % (cells.length : Int)).toNat]? = some (.int cell) := by rw [List.getElem?_map, hcell]; rfl
  have e0 : lenS h [.ref c] = some (.int cells.length, h) := by rw [lenS_ref hc, List.length_map]
  have e1 : ixS h (.ref c) (.int (t % (cells.length : Int))) = some (.int cell, h) := ixS_ref hc (atI_of p0 hm)
  have hslt : s < h.length := (List.getElem?_eq_some_iff.mp R.src).1
  have hclt : c < h.length := (List.getElem?_eq_some_iff.mp R.cel).1
  have n1 : ixN 2 1 = some 1 := by decide
  have hc2 : (h.set s (.lst [.ref c, .int (t + 1)]))[c]? = some (.lst (cells.map D.int)) := by rw [List.getElem?_set_ne R.ne]; exact R.cel
  have n2 : ixN (cells.map D.int).length (t % (cells.length : Int)) = some (t % (cells.length : Int)).toNat := by rw [List.length_map]; exact ixN_of p0 p1
  have md : ∀ (a m : Int) (n : Nat), 0 < m → m ≤ (n : Int) → (a % m).natAbs < n := fun a m n h0 h1 => abs_lt (Int.emod_nonneg _ (by omega)) (Int.lt_of_lt_of_le (Int.emod_lt_of_pos _ h0) h1)
  simp only [wSs, wS, wE, wEs, wO, wT, wI, wG, gAs, gAss, setA, List.foldl_cons, List.foldl_nil, Op2.sem, Bi.sem, okS, okB, En.px, List.getElem?_cons_zero, List.getElem?_cons_succ, List.set_cons_zero, List.set_cons_succ, List.length_cons, List.length_nil, List.map_cons, List.map_nil, List.cons_append, List.nil_append, List.append_nil, List.replicate_succ, List.replicate_zero, Nat.sub_self, Nat.zero_add, Nat.add_zero, Nat.reduceAdd, Nat.reduceSub, Option.map_some, Option.bind_some, Bool.false_eq_true, if_true, if_false, reduceIte]
  simp only [hs]
  simp only [wSs, wS, wE, wEs, wO, wT, wI, wG, gAs, gAss, setA, List.foldl_cons, List.foldl_nil, Op2.sem, Bi.sem, okS, okB, En.px, List.getElem?_cons_zero, List.getElem?_cons_succ, List.set_cons_zero, List.set_cons_succ, List.length_cons, List.length_nil, List.map_cons, List.map_nil, List.cons_append, List.nil_append, List.append_nil, List.replicate_succ, List.replicate_zero, Nat.sub_self, Nat.zero_add, Nat.add_zero, Nat.reduceAdd, Nat.reduceSub, Option.map_some, Option.bind_some, Bool.false_eq_true, if_true, if_false, reduceIte]
  simp only [intS_i, e0, modS_p (show (0 : Int) < (cells.length : Int) by omega), e1, addS_i, R.src]
  simp only [wSs, wS, wE, wEs, wO, wT, wI, wG, gAs, gAss, setA, List.foldl_cons, List.foldl_nil, Op2.sem, Bi.sem, okS, okB, En.px, List.getElem?_cons_zero, List.getElem?_cons_succ, List.set_cons_zero, List.set_cons_succ, List.length_cons, List.length_nil, List.map_cons, List.map_nil, List.cons_append, List.nil_append, List.append_nil, List.replicate_succ, List.replicate_zero, Nat.sub_self, Nat.zero_add, Nat.add_zero, Nat.reduceAdd, Nat.reduceSub, Option.map_some, Option.bind_some, Bool.false_eq_true, if_true, if_false, reduceIte]
  simp only [n1, pow18, geS_i, truD_b]
  simp only [wSs, wS, wE, wEs, wO, wT, wI, wG, gAs, gAss, setA, List.foldl_cons, List.foldl_nil, Op2.sem, Bi.sem, okS, okB, En.px, List.getElem?_cons_zero, List.getElem?_cons_succ, List.set_cons_zero, List.set_cons_succ, List.length_cons, List.length_nil, List.map_cons, List.map_nil, List.cons_append, List.nil_append, List.append_nil, List.replicate_succ, List.replicate_zero, Nat.sub_self, Nat.zero_add, Nat.add_zero, Nat.reduceAdd, Nat.reduceSub, Option.map_some, Option.bind_some, Bool.false_eq_true, if_true, if_false, reduceIte]
  by_cases hge : (10 ^ 18 : Int) ≤ cell
  · rw [if_pos (by simpa using hge)]
    simp only [divS_p (i := cell) h1 (Nat.lt_of_lt_of_le (abs_lt (n := 1000000000) (by omega) h2) (by decide +kernel)), hc2, n2, intS_i, modS_p h1]
    have z := k (cell % lim) (cells.set (t % (cells.length : Int)).toNat (cell / lim)) (Int.emod_nonneg _ (by omega)) (Int.emod_lt_of_pos _ h1) (List.length_set)
    rw [List.map_set] at z
    exact z
  · rw [if_neg (by simpa using hge)]
    have t2 : t * t ≤ 1000000000 * 1000000000 := Int.mul_le_mul (by omega) (by omega) R.t0 (by omega)
    have t3 : 0 ≤ t * t := Int.mul_nonneg R.t0 R.t0
    have m1 : mulS (h.set s (.lst [.ref c, .int (t + 1)])) (.int (cell % 2147483629)) (.int 48271) = some (.int (cell % 2147483629 * 48271), _) := mulS_p (Nat.lt_of_lt_of_le (md _ _ 2147483629 (by decide) (by decide)) (by decide +kernel)) (by decide +kernel)
    have m2 : mulS (h.set s (.lst [.ref c, .int (t + 1)])) (.int t) (.int t) = some (.int (t * t), _) := mulS_p (Nat.lt_of_lt_of_le (abs_lt (n := 1000000000) R.t0 ht) (by decide +kernel)) (Nat.lt_of_lt_of_le (abs_lt (n := 1000000000) R.t0 ht) (by decide +kernel))
    have m3 : mulS (h.set s (.lst [.ref c, .int (t + 1)])) (.int (t * t)) (.int 69621) = some (.int (t * t * 69621), _) := mulS_p (Nat.lt_of_lt_of_le (abs_lt (n := 1000000000000000001) t3 (by omega)) (by decide +kernel)) (by decide +kernel)
    have m4 : ∀ a : Int, mulS (h.set s (.lst [.ref c, .int (t + 1)])) (.int (a % 2147483647)) (.int (a % 2147483647)) = some (.int (a % 2147483647 * (a % 2147483647)), _) := fun a => mulS_p (Nat.lt_of_lt_of_le (md _ _ 2147483647 (by decide) (by decide)) (by decide +kernel)) (Nat.lt_of_lt_of_le (md _ _ 2147483647 (by decide) (by decide)) (by decide +kernel))
    have m5 : ∀ a : Int, mulS (h.set s (.lst [.ref c, .int (t + 1)])) (.int (a % 2147483629)) (.int (a % 2147483629)) = some (.int (a % 2147483629 * (a % 2147483629)), _) := fun a => mulS_p (Nat.lt_of_lt_of_le (md _ _ 2147483629 (by decide) (by decide)) (by decide +kernel)) (Nat.lt_of_lt_of_le (md _ _ 2147483629 (by decide) (by decide)) (by decide +kernel))
    simp only [intS_i, modS_p (show (0 : Int) < 2147483629 by decide), m1, m2, m3, addS_i, modS_p (show (0 : Int) < 2147483647 by decide), m4, m5, modS_p (show (0 : Int) < 2147483587 by decide), modS_p h1]
    have z := k (((((cell % 2147483629 * 48271 + t * t * 69621 + 11) % 2147483647 * ((cell % 2147483629 * 48271 + t * t * 69621 + 11) % 2147483647)) % 2147483629 * (((cell % 2147483629 * 48271 + t * t * 69621 + 11) % 2147483647 * ((cell % 2147483629 * 48271 + t * t * 69621 + 11) % 2147483647)) % 2147483629)) % 2147483587) % lim) cells (Int.emod_nonneg _ (by omega)) (Int.emod_lt_of_pos _ h1) rfl
    have e : (h.set s (.lst [.ref c, .int (t + 1)])).set c (.lst (cells.map D.int)) = h.set s (.lst [.ref c, .int (t + 1)]) := by
      apply List.ext_getElem?
      intro i
      by_cases hi : i = c
      · subst hi
        rw [List.getElem?_set_self (by simpa using hclt), hc2]
      · rw [List.getElem?_set_ne (fun z => hi z.symm)]
    rw [e] at z
    exact z
end Mi

set_option Elab.async false
set_option linter.all false
set_option maxRecDepth 100000
set_option maxHeartbeats 4000000
/-! Mi: loops by an invariant; where the draws come from. -/
namespace Mi
open PySem PySem.Spec PyProof.Rows L2
theorem wItems_inv {g : Hh → Prop} {body : D → (Sl → Hh → Prop) → Sl → Hh → Prop} {nx : Sl → Hh → Prop} {ds : List D} (I : Nat → Sl → Hh → Prop) (hg : ∀ i τ h, I i τ h → g h)
    (step : ∀ (i : Nat) (d : D) (τ : Sl) (h : Hh) (k : Sl → Hh → Prop), ds[i]? = some d → I i τ h → (∀ τ' h', I (i + 1) τ' h' → k τ' h') → body d k τ h) (hd : ∀ τ h, I ds.length τ h → nx τ h) {τ : Sl} {h : Hh} (h0 : I 0 τ h) : wItems g body nx ds τ h := by
  have gen : ∀ (n i : Nat) (τ : Sl) (h : Hh), ds.length - i = n → i ≤ ds.length → I i τ h → wItems g body nx (ds.drop i) τ h := by
    intro n
    induction n with
    | zero =>
      intro i τ h hn hi hI
      have e : i = ds.length := by omega
      subst e
      rw [List.drop_length]
      exact ⟨hg _ _ _ hI, hd _ _ hI⟩
    | succ n ih =>
      intro i τ h hn hi hI
      have hlt : i < ds.length := by omega
      obtain ⟨d, ed⟩ : ∃ d, ds[i]? = some d := ⟨_, List.getElem?_eq_getElem hlt⟩
      rw [drop_cons ed]
      exact ⟨hg _ _ _ hI, step i d τ h _ ed hI fun τ' h' hI' => ih (i + 1) τ' h' (by omega) (by omega) hI'⟩
  exact gen _ 0 τ h rfl (Nat.zero_le _) h0
theorem range_at {lo : Int} {n i : Nat} {d : D} (e : (rangeD lo n)[i]? = some d) : i < n ∧ d = .int (lo + i) := by
  unfold rangeD at e
  rw [List.getElem?_map] at e
  have hi : i < n := by
    cases e2 : (List.range n)[i]? with
    | none => rw [e2] at e; cases e
    | some j => have := (List.getElem?_eq_some_iff.mp e2).1; simpa using this
  rw [List.getElem?_range hi] at e
  cases e
  exact ⟨hi, rfl⟩
theorem range_len {lo : Int} {n : Nat} : (rangeD lo n).length = n := by simp [rangeD]
theorem cut_map {ns : List Int} {lo hi : Option Int} : cutL (ns.map D.int) lo hi = (cutL ns lo hi).map D.int := by
  unfold cutL
  rw [List.length_map, List.map_take, List.map_drop]
theorem app_at {h : Hh} {o : O} {i : Nat} {u : O} (e : h[i]? = some u) : (h ++ [o])[i]? = some u := by
  rw [List.getElem?_append_left (List.getElem?_eq_some_iff.mp e).1]; exact e
theorem new_at {h : Hh} {o : O} : (h ++ [o])[h.length]? = some o := by
  rw [List.getElem?_append_right (Nat.le_refl _), Nat.sub_self]; rfl
theorem set_new {h : Hh} {o u : O} : (h ++ [o]).set h.length u = h ++ [u] := by
  rw [List.set_append_right _ _ (Nat.le_refl _), Nat.sub_self]; rfl
theorem lk_r1 {τ : Sl} {h : Hh} {e : E} : Ir.lk τ h (.r1 e) = none := rfl
theorem lk_r2 {τ : Sl} {h : Hh} {e f : E} : Ir.lk τ h (.r2 e f) = none := rfl
theorem lk_of' {τ : Sl} {h : Hh} {e : E} : Ir.lk τ h (.of e) = none := rfl
theorem lk_en {τ : Sl} {h : Hh} {e : E} : Ir.lk τ h (.en e) = none := rfl
theorem lk_zp {τ : Sl} {h : Hh} {e f : E} : Ir.lk τ h (.zp e f) = none := rfl
theorem eqS_ll {h : Hh} {i j : Nat} {xs ys : List D} (e1 : asL h (.ref i) = some xs) (e2 : asL h (.ref j) = some ys) (hij : i ≠ j) (hl : xs.length ≠ ys.length) : eqS h (.ref i) (.ref j) = some (.bl false, h) := by
  unfold eqS eqTop
  rw [asK_of e1, asK_of e2]
  unfold eqV
  dsimp only
  rw [e1, e2]
  dsimp only
  rw [if_neg hij, if_neg hl]; rfl
theorem eqS_nil {h : Hh} {i j : Nat} (e1 : asL h (.ref i) = some []) (e2 : asL h (.ref j) = some []) : eqS h (.ref i) (.ref j) = some (.bl true, h) := by
  unfold eqS eqTop
  rw [asK_of e1, asK_of e2]
  unfold eqV
  dsimp only
  rw [e1, e2]
  dsimp only
  by_cases hij : i = j
  · rw [if_pos hij]; rfl
  · rw [if_neg hij, if_pos rfl]; rfl
theorem source_w {Z : Zi} {B : List Fd} {n f : Nat} (hB : B[f]? = some bSource) {h : Hh} {a : Nat} {ns : List Int} (ha : asL h (.ref a) = some (ns.map D.int)) {Q : PQ} {Qx : PX}
    (k : ∀ (s c : Nat) (cells : List Int) (h' : Hh), Src h' s c 0 cells → h <+: h' → Q (.ref s) h') : WPc Z B (n + 1) f [.ref a] h Q Qx := by
  unfold WPc
  rw [hB]
  refine ⟨rfl, ?_⟩
  unfold bSource
  have hcut : (cutL ns none (some 63)).length ≤ 63 := by
    unfold cutL
    have e : HT.sIx ns.length ns.length (some 63) = min 63 ns.length := HT.sIx_nat ns.length ns.length 63
    rw [List.length_take, e]
    omega
  have e0 : slS h (.ref a) none (some 63) = some (.ref h.length, h ++ [.lst ((cutL ns none (some 63)).map D.int)]) := by
    unfold slS
    dsimp only
    rw [ha]
    dsimp only
    rw [cut_map]
  obtain ⟨cs0, hcs⟩ : ∃ cs0, cs0 = cutL ns none (some 63) := ⟨_, rfl⟩
  rw [← hcs] at hcut e0
  clear hcs
  have el : lenS (h ++ [.lst (cs0.map D.int)]) [.ref h.length] = some (.int cs0.length, h ++ [.lst (cs0.map D.int)]) := by rw [lenS_ref (asL_at new_at), List.length_map]
  simp only [wSs, wS, wE, wEs, wO, wT, wI, wG, gAs, gAss, setA, List.foldl_cons, List.foldl_nil, Op2.sem, Bi.sem, okS, okB, En.px, List.getElem?_cons_zero, List.getElem?_cons_succ, List.set_cons_zero, List.set_cons_succ, List.length_cons, List.length_nil, List.map_cons, List.map_nil, List.cons_append, List.nil_append, List.append_nil, List.replicate_succ, List.replicate_zero, Nat.sub_self, Nat.zero_add, Nat.add_zero, Nat.reduceAdd, Nat.reduceSub, Option.map_some, Option.bind_some, Bool.false_eq_true, if_true, if_false, reduceIte]
  simp only [e0, lk_r1, el]
  refine ⟨⟨by omega, by omega⟩, ?_⟩
  refine wItems_inv (fun i τ h' => ∃ (x : Option D) (cs : List Int), τ = [some (.ref a), some (.ref h.length), x] ∧ h' = h ++ [.lst (cs.map D.int)] ∧ cs.length = cs0.length) (fun _ _ _ _ => trivial) (fun i d τ h' k' ed hI kk => ?_) (fun τ h' hI => ?_) ⟨_, cs0, rfl, rfl, rfl⟩
  · obtain ⟨x, cs, rfl, rfl, hl⟩ := hI
    obtain ⟨hi, rfl⟩ := range_at ed
    have hi2 : i < cs.length := by omega
    obtain ⟨v, hv⟩ : ∃ v, cs[i]? = some v := ⟨_, List.getElem?_eq_getElem hi2⟩
    have hz : ((0 : Int) + (i : Int)) = (i : Int) := by omega
    have ex : ixS (h ++ [.lst (cs.map D.int)]) (.ref h.length) (.int ((0 : Int) + (i : Int))) = some (.int v, h ++ [.lst (cs.map D.int)]) := by
      rw [hz]; exact ixS_ref (asL_at new_at) (atI_nat (by rw [List.getElem?_map, hv]; rfl))
    have n2 : ixN (cs.map D.int).length ((0 : Int) + (i : Int)) = some i := by rw [hz, List.length_map]; exact ixN_nat hi2
    simp only [wSs, wS, wE, wEs, wO, wT, wI, wG, gAs, gAss, setA, List.foldl_cons, List.foldl_nil, Op2.sem, Bi.sem, okS, okB, En.px, List.getElem?_cons_zero, List.getElem?_cons_succ, List.set_cons_zero, List.set_cons_succ, List.length_cons, List.length_nil, List.map_cons, List.map_nil, List.cons_append, List.nil_append, List.append_nil, List.replicate_succ, List.replicate_zero, Nat.sub_self, Nat.zero_add, Nat.add_zero, Nat.reduceAdd, Nat.reduceSub, Option.map_some, Option.bind_some, Bool.false_eq_true, if_true, if_false, reduceIte]
    simp only [ex, absS_i, pow18, geS_i, truD_b]
    by_cases hge : (10 ^ 18 : Int) ≤ (if v < 0 then -v else v)
    · rw [if_pos (by simpa using hge)]
      simp only [intS_i, pow60, pow1200, modS_p (show (0 : Int) < (10 ^ 60) ^ 20 by decide +kernel), new_at, n2, set_new]
      exact kk _ _ ⟨_, cs.set i (v % (10 ^ 60) ^ 20), rfl, by rw [List.map_set], by rw [List.length_set, hl]⟩
    · rw [if_neg (by simpa using hge)]
      exact kk _ _ ⟨_, cs, rfl, rfl, hl⟩
  · obtain ⟨x, cs, rfl, rfl, hl⟩ := hI
    have e1 : asL ((h ++ [.lst (cs.map D.int)]) ++ [.lst []]) (.ref h.length) = some (cs.map D.int) := asL_at (app_at new_at)
    have e2 : asL ((h ++ [.lst (cs.map D.int)]) ++ [.lst []]) (.ref (h ++ [O.lst (cs.map D.int)]).length) = some [] := asL_at new_at
    have hne : h.length ≠ (h ++ [O.lst (cs.map D.int)]).length := by simp
    simp only [wSs, wS, wE, wEs, wO, wT, wI, wG, gAs, gAss, setA, List.foldl_cons, List.foldl_nil, Op2.sem, Bi.sem, okS, okB, En.px, List.getElem?_cons_zero, List.getElem?_cons_succ, List.set_cons_zero, List.set_cons_succ, List.length_cons, List.length_nil, List.map_cons, List.map_nil, List.cons_append, List.nil_append, List.append_nil, List.replicate_succ, List.replicate_zero, Nat.sub_self, Nat.zero_add, Nat.add_zero, Nat.reduceAdd, Nat.reduceSub, Option.map_some, Option.bind_some, Bool.false_eq_true, if_true, if_false, reduceIte]
    refine ⟨Nat.zero_le _, ?_⟩
    by_cases hc : cs = []
    · subst hc
      simp only [eqS_nil e1 e2, truD_b]
      simp only [wSs, wS, wE, wEs, wO, wT, wI, wG, gAs, gAss, setA, List.foldl_cons, List.foldl_nil, Op2.sem, Bi.sem, okS, okB, En.px, List.getElem?_cons_zero, List.getElem?_cons_succ, List.set_cons_zero, List.set_cons_succ, List.length_cons, List.length_nil, List.map_cons, List.map_nil, List.cons_append, List.nil_append, List.append_nil, List.replicate_succ, List.replicate_zero, Nat.sub_self, Nat.zero_add, Nat.add_zero, Nat.reduceAdd, Nat.reduceSub, Option.map_some, Option.bind_some, Bool.false_eq_true, if_true, if_false, reduceIte]
      refine ⟨by decide, by decide, ?_⟩
      refine k _ ((h ++ [O.lst []]) ++ [O.lst []]).length [0] _ ⟨by simp, new_at, app_at new_at, by simp, by omega, by simp⟩ ?_
      exact ⟨[O.lst [], O.lst [], O.lst [.int 0], O.lst [.ref ((h ++ [O.lst []]) ++ [O.lst []]).length, .int 0]], by simp⟩
    · have hl2 : (cs.map D.int).length ≠ ([] : List D).length := by
        rw [List.length_map]
        exact fun z => hc (List.length_eq_zero_iff.mp z)
      simp only [eqS_ll e1 e2 hne hl2, truD_b]
      simp only [wSs, wS, wE, wEs, wO, wT, wI, wG, gAs, gAss, setA, List.foldl_cons, List.foldl_nil, Op2.sem, Bi.sem, okS, okB, En.px, List.getElem?_cons_zero, List.getElem?_cons_succ, List.set_cons_zero, List.set_cons_succ, List.length_cons, List.length_nil, List.map_cons, List.map_nil, List.cons_append, List.nil_append, List.append_nil, List.replicate_succ, List.replicate_zero, Nat.sub_self, Nat.zero_add, Nat.add_zero, Nat.reduceAdd, Nat.reduceSub, Option.map_some, Option.bind_some, Bool.false_eq_true, if_true, if_false, reduceIte]
      refine ⟨by decide, ?_⟩
      refine k _ h.length cs _ ⟨by simp, new_at, app_at (app_at new_at), hc, by omega, by omega⟩ ?_
      exact ⟨[O.lst (cs.map D.int), O.lst [], O.lst [.ref h.length, .int 0]], by simp⟩
def bPick (draw : Nat) : Fd := ⟨2, 2, (.cons (.ret (.op .ix (.v 1) (.call draw (.cons (.v 0) (.cons (.bi .len (.cons (.v 1) .nil)) .nil)))))
  .nil)⟩
/-- the heap behind a draw -/
def drawn (h : Hh) (s c : Nat) (t : Int) (cells' : List Int) : Hh := (h.set s (.lst [.ref c, .int (t + 1)])).set c (.lst (cells'.map D.int))
theorem drawn_src {h : Hh} {s c : Nat} {t : Int} {cells cells' : List Int} (R : Src h s c t cells) (hl : cells'.length = cells.length) : Src (drawn h s c t cells') s c (t + 1) cells' := by
  have hs : s < h.length := (List.getElem?_eq_some_iff.mp R.src).1
  have hc : c < h.length := (List.getElem?_eq_some_iff.mp R.cel).1
  refine ⟨R.ne, ?_, ?_, ?_, by have := R.t0; omega, by have := R.lt; omega⟩
  · unfold drawn
    rw [List.getElem?_set_ne (Ne.symm R.ne), List.getElem?_set_self hs]
  · unfold drawn
    rw [List.getElem?_set_self (by simpa using hc)]
  · intro z
    subst z
    exact R.pos (List.length_eq_zero_iff.mp hl.symm)
theorem drawn_at {h : Hh} {s c i : Nat} {t : Int} {cells' : List Int} (h1 : i ≠ s) (h2 : i ≠ c) : (drawn h s c t cells')[i]? = h[i]? := by
  unfold drawn
  rw [List.getElem?_set_ne (Ne.symm h2), List.getElem?_set_ne (Ne.symm h1)]
theorem drawn_len {h : Hh} {s c : Nat} {t : Int} {cells' : List Int} : (drawn h s c t cells').length = h.length := by
  unfold drawn
  rw [List.length_set, List.length_set]
theorem pick_w {Z : Zi} {B : List Fd} {n f g : Nat} (hB : B[f]? = some (bPick g)) (hD : B[g]? = some bDraw) {h : Hh} {s c v : Nat} {t : Int} {cells : List Int} {ds : List D} (R : Src h s c t cells) (ht : t < 1000000000) (hv : asL h (.ref v) = some ds) (vs : v ≠ s) (vc : v ≠ c) (h0 : ds ≠ []) (h1 : ds.length < 1000000000) {Q : PQ} {Qx : PX}
    (k : ∀ (i : Nat) (d : D) (cells' : List Int), ds[i]? = some d → cells'.length = cells.length → Q d (drawn h s c t cells')) : WPc Z B (n + 2) f [.ref s, .ref v] h Q Qx := by
  unfold WPc
  rw [hB]
  refine ⟨rfl, ?_⟩
  unfold bPick
  simp only [wSs, wS, wE, wEs, wO, wT, wI, wG, gAs, gAss, setA, List.foldl_cons, List.foldl_nil, Op2.sem, Bi.sem, okS, okB, En.px, List.getElem?_cons_zero, List.getElem?_cons_succ, List.set_cons_zero, List.set_cons_succ, List.length_cons, List.length_nil, List.map_cons, List.map_nil, List.cons_append, List.nil_append, List.append_nil, List.replicate_succ, List.replicate_zero, Nat.sub_self, Nat.zero_add, Nat.add_zero, Nat.reduceAdd, Nat.reduceSub, Option.map_some, Option.bind_some, Bool.false_eq_true, if_true, if_false, reduceIte]
  simp only [lenS_ref hv]
  refine draw_w hD R ht (by have := List.length_pos_iff.mpr h0; omega) (by omega) fun r cells' r0 r1 hl => ?_
  have hv2 : asL (drawn h s c t cells') (.ref v) = some ds := by
    unfold asL
    dsimp only
    rw [drawn_at vs vc]
    unfold asL at hv
    exact hv
  obtain ⟨d, hd⟩ : ∃ d, ds[r.toNat]? = some d := ⟨_, List.getElem?_eq_getElem (by omega)⟩
  have e : ixS (drawn h s c t cells') (.ref v) (.int r) = some (d, _) := ixS_ref hv2 (atI_of r0 hd)
  show match ixS (drawn h s c t cells') (.ref v) (.int r) with
    | some (z, h) => Q z h
    | none => False
  rw [e]
  exact k r.toNat d cells' hd hl
/-- .. with the heap behind it as one that is known but for two places -/
theorem draw_x {Z : Zi} {B : List Fd} {n f : Nat} (hB : B[f]? = some bDraw) {h : Hh} {s c : Nat} {t lim : Int} {cells : List Int} (R : Src h s c t cells) (ht : t < 1000000000) (h1 : 0 < lim) (h2 : lim < 1000000000) {Q : PQ} {Qx : PX}
    (k : ∀ (r : Int) (h' : Hh) (cells' : List Int), 0 ≤ r → r < lim → Src h' s c (t + 1) cells' → h'.length = h.length → (∀ j, j ≠ s → j ≠ c → h'[j]? = h[j]?) → Q (.int r) h') : WPc Z B (n + 1) f [.ref s, .int lim] h Q Qx :=
  draw_w hB R ht h1 h2 fun r cells' r0 r1 hl => k r _ cells' r0 r1 (drawn_src R hl) drawn_len fun j a b => drawn_at a b
theorem pick_x {Z : Zi} {B : List Fd} {n f g : Nat} (hB : B[f]? = some (bPick g)) (hD : B[g]? = some bDraw) {h : Hh} {s c v : Nat} {t : Int} {cells : List Int} {ds : List D} (R : Src h s c t cells) (ht : t < 1000000000) (hv : asL h (.ref v) = some ds) (vs : v ≠ s) (vc : v ≠ c) (h0 : ds ≠ []) (h1 : ds.length < 1000000000) {Q : PQ} {Qx : PX}
    (k : ∀ (i : Nat) (d : D) (h' : Hh) (cells' : List Int), ds[i]? = some d → Src h' s c (t + 1) cells' → h'.length = h.length → (∀ j, j ≠ s → j ≠ c → h'[j]? = h[j]?) → Q d h') : WPc Z B (n + 2) f [.ref s, .ref v] h Q Qx :=
  pick_w hB hD R ht hv vs vc h0 h1 fun i d cells' hd hl => k i d _ cells' hd (drawn_src R hl) drawn_len fun j a b => drawn_at a b
end Mi

set_option Elab.async false
set_option linter.all false
set_option maxRecDepth 100000
set_option maxHeartbeats 4000000
/-! Mi: lists that grow, comprehensions, comparisons. -/
namespace Mi
open PySem PySem.Spec PyProof.Rows L2
section
variable {Z : Zi} {C : Cal}
theorem wSs_c {s : S} {ss : Ss} {D : En} {τ : Sl} {h : Hh} (w : wS Z C s { D with nx := wSs Z C ss D } τ h) : wSs Z C (.cons s ss) D τ h := w
theorem wSs_n {D : En} {τ : Sl} {h : Hh} (w : D.nx τ h) : wSs Z C .nil D τ h := w
/-- items that are what they are -/
def PureEs (Z : Zi) (C : Cal) (es : Es) (τ : Sl) (ds : List D) : Prop := ∀ (h : Hh) (Q : List D → Hh → Prop) (Qx : PX), Q ds h → wEs Z C es Q Qx τ h
theorem pre_at {h h' : Hh} (p : h <+: h') {i : Nat} {o : O} (e : h[i]? = some o) : h'[i]? = some o := by
  obtain ⟨t, rfl⟩ := p
  rw [List.getElem?_append_left (List.getElem?_eq_some_iff.mp e).1]; exact e
theorem pre_asL {h h' : Hh} (p : h <+: h') {d : D} {ds : List D} (e : asL h d = some ds) : asL h' d = some ds := by
  cases d with
  | ref i =>
    unfold asL at e ⊢
    dsimp only at e ⊢
    cases ei : h[i]? with
    | none => rw [ei] at e; cases e
    | some o => rw [ei] at e; rw [pre_at p ei]; exact e
  | _ => cases e
theorem pre_app {h h' : Hh} (p : h <+: h') (t : Hh) : h <+: h' ++ t := p.trans ⟨t, rfl⟩
/-- x = x + [..], one behind the other -/
def growSs (i : Nat) : List Es → Ss → Ss
  | [], k => k
  | es :: r, k => .cons (.asg (.n i) (.op .add (.v i) (.lst es))) (growSs i r k)
theorem addS_ll {h : Hh} {i j : Nat} {xs ys : List D} (e1 : h[i]? = some (.lst xs)) (e2 : h[j]? = some (.lst ys)) (hl : xs.length + ys.length ≤ 1000000) : addS h (.ref i) (.ref j) = some (.ref h.length, h ++ [.lst (xs ++ ys)]) := by
  unfold addS
  dsimp only
  rw [e1, e2]
  dsimp only
  rw [if_pos (by rw [sizeLine_eq]; omega)]
theorem grow_w {i : Nat} {k : Ss} {D0 : En} : ∀ (rs : List (Es × List D)) {τ : Sl} {h : Hh} {r : Nat} {xs : List D}, (∀ p ∈ rs, ∀ v, PureEs Z C p.1 (τ.set i v) p.2) → i < τ.length → τ[i]? = some (some (.ref r)) → h[r]? = some (.lst xs) → xs.length + (rs.flatMap (·.2)).length ≤ 1000000 →
    (∀ r' h', h <+: h' → h'[r']? = some (.lst (xs ++ rs.flatMap (·.2))) → wSs Z C k D0 (τ.set i (some (.ref r'))) h') → wSs Z C (growSs i (rs.map (·.1)) k) D0 τ h
  | [], τ, h, r, xs, hp, hi, ht, hr, hl, hk => by
    have e : τ.set i (some (.ref r)) = τ := by
      apply List.ext_getElem?
      intro j
      by_cases hj : i = j
      · subst hj; rw [List.getElem?_set_self hi, ht]
      · rw [List.getElem?_set_ne hj]
    have z := hk r h (List.prefix_refl _) (by simpa using hr)
    rw [e] at z
    exact z
  | p :: rs, τ, h, r, xs, hp, hi, ht, hr, hl, hk => by
    have e : τ.set i (some (.ref r)) = τ := by
      apply List.ext_getElem?
      intro j
      by_cases hj : i = j
      · subst hj; rw [List.getElem?_set_self hi, ht]
      · rw [List.getElem?_set_ne hj]
    have pp := hp p List.mem_cons_self (some (.ref r))
    rw [e] at pp
    rw [List.flatMap_cons, List.length_append] at hl
    show wS Z C (.asg (.n i) (.op .add (.v i) (.lst p.1))) { D0 with nx := wSs Z C (growSs i (rs.map (·.1)) k) D0 } τ h
    simp only [wS, wE, ht, Op2.sem]
    refine pp _ _ _ ⟨by rw [sizeLine_eq]; omega, ?_⟩
    rw [addS_ll (app_at hr) new_at (by omega)]
    simp only [okS, wG, gAs, setA, List.foldl_cons, List.foldl_nil]
    refine grow_w rs (fun q hq v => ?_) (by simpa using hi) (List.getElem?_set_self hi) new_at (by rw [List.length_append]; omega) fun r' h' pre hr' => ?_
    · rw [List.set_set]
      exact hp q (List.mem_cons_of_mem _ hq) v
    · rw [List.set_set]
      refine hk r' h' ((pre_app (pre_app (List.prefix_refl h) [.lst p.2]) [.lst (xs ++ p.2)]).trans pre) ?_
      rw [hr', List.flatMap_cons, List.append_assoc]
/-- a comprehension without a test, of what changes nothing else -/
theorem wAcc_map {g : Hh → Prop} {a : Nat} {elt : D → PQ → (Hh → Prop) → Hh → Prop} {k : Hh → Prop} (F : D → D) (I : Hh → Prop) (hg : ∀ h, I h → g h) : ∀ {ds : List D} {h : Hh} {acc : List D}, (∀ d ∈ ds, ∀ q sk h', I h' → (∀ h'', I h'' → h''[a]? = h'[a]? → h''.length = h'.length → (∀ i, i < h'.length → i ≠ a → h''[i]? = h'[i]?) → q (F d) h'') → elt d q sk h') →
    (∀ h' o, I h' → I (h'.set a o)) → I h → h[a]? = some (.lst acc) → acc.length + ds.length ≤ 1000000 → (∀ h', I h' → h'[a]? = some (.lst (acc ++ ds.map F)) → h'.length = h.length → (∀ i, i < h.length → i ≠ a → h'[i]? = h[i]?) → k h') → wAcc g a elt k ds h
  | [], h, acc, he, hs, hI, ha, hl, hk => ⟨hg h hI, hk h hI (by simpa using ha) rfl fun _ _ _ => rfl⟩
  | d :: ds, h, acc, he, hs, hI, ha, hl, hk => by
    refine ⟨hg h hI, he d List.mem_cons_self _ _ h hI fun h2 hI2 e2 l2 o2 => ?_⟩
    rw [e2, ha]
    dsimp only
    have hal : a < h2.length := by rw [l2]; exact (List.getElem?_eq_some_iff.mp ha).1
    refine ⟨by rw [sizeLine_eq]; rw [List.length_cons] at hl; omega, wAcc_map F I hg (fun d' hd' => he d' (List.mem_cons_of_mem _ hd')) hs (hs _ _ hI2) (List.getElem?_set_self hal) (by rw [List.length_append]; rw [List.length_cons] at hl; simp; omega) fun h3 hI3 e3 l3 o3 => ?_⟩
    refine hk h3 hI3 (by rw [e3, List.map_cons, List.append_assoc]; rfl) (by rw [l3, List.length_set, l2]) fun i hi hne => ?_
    rw [o3 i (by rw [List.length_set, l2]; exact hi) hne, List.getElem?_set_ne (Ne.symm hne), o2 i hi hne]
theorem ixS_dct {h : Hh} {a : Nat} {lk : Bool} {kvs : List (Ky × D)} {y d : D} {k : Ky} (e : h[a]? = some (.dct lk kvs)) (hk : y.ky = some k) (hg : getKd kvs k = some d) : ixS h (.ref a) y = some (d, h) := by
  have ek : asK h (.ref a) = some kvs := by simp only [asK, e]
  unfold ixS
  dsimp only
  rw [ek]
  dsimp only
  rw [hk, Option.bind_some, hg]; rfl
/-- == of lists -/
theorem eqL_of {f : D → D → Option Bool} : ∀ {xs ys : List D}, (∀ (i : Nat) x y, xs[i]? = some x → ys[i]? = some y → f x y = some true) → eqL f xs ys = some true
  | [], _, _ => rfl
  | _ :: _, [], _ => rfl
  | x :: xs, y :: ys, h => by
    unfold eqL
    rw [h 0 x y rfl rfl, eqL_of fun i x y e1 e2 => h (i + 1) x y (by simpa using e1) (by simpa using e2)]
    rfl
theorem eqV_bl {h : Hh} {n : Nat} {a b : Bool} : eqV h (n + 1) (.bl a) (.bl b) = some (a == b) := rfl
theorem eqV_int {h : Hh} {n : Nat} {a b : Int} : eqV h (n + 1) (.int a) (.int b) = some (a == b) := rfl
theorem eqV_str {h : Hh} {n : Nat} {a b : List Nat} : eqV h (n + 1) (.str a) (.str b) = some (a == b) := rfl
theorem neS_ll {h : Hh} {i j : Nat} {xs ys : List D} (e1 : asL h (.ref i) = some xs) (e2 : asL h (.ref j) = some ys) (hl : xs.length = ys.length) (he : eqL (eqV h 189) xs ys = some true) : neS h (.ref i) (.ref j) = some (.bl false, h) := by
  unfold neS eqTop
  rw [asK_of e1, asK_of e2]
  unfold eqV
  dsimp only
  rw [e1, e2]
  dsimp only
  by_cases hij : i = j
  · rw [if_pos hij]; rfl
  · rw [if_neg hij, if_pos hl, he]; rfl
end
end Mi

set_option Elab.async false
set_option linter.all false
set_option maxRecDepth 100000
set_option maxHeartbeats 4000000
/-! Mi: lists by functions; comprehensions whose items grow the heap; what stays. -/
namespace Mi
open PySem PySem.Spec PyProof.Rows L2

def fnD (N : Nat) (f : Nat → D) : List D := (List.range N).map f
theorem fnD_len {N : Nat} {f : Nat → D} : (fnD N f).length = N := by simp [fnD]
theorem fnD_get {N i : Nat} {f : Nat → D} (hi : i < N) : (fnD N f)[i]? = some (f i) := by
  unfold fnD
  rw [List.getElem?_map, List.getElem?_range hi]; rfl
theorem fnD_at {N i : Nat} {f : Nat → D} {d : D} (e : (fnD N f)[i]? = some d) : i < N ∧ d = f i := by
  have hi : i < N := by
    have := (List.getElem?_eq_some_iff.mp e).1
    rwa [fnD_len] at this
  rw [fnD_get hi] at e
  exact ⟨hi, (Option.some.inj e).symm⟩
theorem fnD_congr {N : Nat} {f g : Nat → D} (h : ∀ i, i < N → f i = g i) : fnD N f = fnD N g := by
  unfold fnD
  exact List.map_congr_left fun i hi => h i (List.mem_range.mp hi)
theorem fnD_set {N k : Nat} {f : Nat → D} {v : D} : (fnD N f).set k v = fnD N (fun i => if i = k then v else f i) := by
  apply List.ext_getElem?
  intro i
  by_cases hi : i < N
  · rw [fnD_get hi, List.getElem?_set]
    by_cases c : k = i
    · subst c; rw [if_pos rfl, if_pos (by rw [fnD_len]; exact hi), if_pos rfl]
    · rw [if_neg c, fnD_get hi, if_neg (fun e => c e.symm)]
  · rw [List.getElem?_eq_none (by rw [List.length_set, fnD_len]; omega), List.getElem?_eq_none (by rw [fnD_len]; omega)]
theorem fnD_snoc {N : Nat} {f : Nat → D} {v : D} : fnD N f ++ [v] = fnD (N + 1) (fun i => if i = N then v else f i) := by
  unfold fnD
  rw [List.range_succ, List.map_append]
  congr 1
  · refine List.map_congr_left fun i hi => ?_
    have := List.mem_range.mp hi
    rw [if_neg (by omega)]
  · simp
theorem fnD_of (ds : List D) : ds = fnD ds.length fun i => ds.getD i .non := by
  apply List.ext_getElem?
  intro i
  by_cases hi : i < ds.length
  · rw [fnD_get hi, List.getD_eq_getElem?_getD, List.getElem?_eq_getElem hi]; rfl
  · rw [List.getElem?_eq_none (by omega), List.getElem?_eq_none (by rw [fnD_len]; omega)]
/-- numbers -/
def nD (n : Nat) : D := .int (n : Int)
theorem fnD_range {N : Nat} : rangeD 0 N = fnD N nD := by
  unfold rangeD fnD nD
  exact List.map_congr_left fun i _ => by rw [Int.zero_add]
theorem atI_fn {N i : Nat} {f : Nat → D} (hi : i < N) : atI (fnD N f) (i : Int) = some (f i) := atI_nat (fnD_get hi)

/-! ### what stays -/
theorem pre_len {h h' : Hh} (p : h <+: h') : h.length ≤ h'.length := p.length_le
theorem pre_set {h h' : Hh} (p : h <+: h') {i : Nat} {o : O} (hi : h.length ≤ i) : h <+: h'.set i o := by
  obtain ⟨t, rfl⟩ := p
  rw [List.set_append_right _ _ hi]
  exact ⟨_, rfl⟩
theorem pre_same {h h' : Hh} (p : h <+: h') {i : Nat} (hi : i < h.length) : h'[i]? = h[i]? := by
  obtain ⟨t, rfl⟩ := p
  rw [List.getElem?_append_left hi]
theorem pre_snoc {h h' : Hh} (p : h <+: h') {o : O} : h <+: h' ++ [o] := p.trans ⟨[o], rfl⟩
theorem set_at {h : Hh} {i j : Nat} {o u : O} (e : h[i]? = some u) (hj : j ≠ i) : (h.set j o)[i]? = some u := by
  rw [List.getElem?_set_ne hj]; exact e
theorem set_self {h : Hh} {i : Nat} {o u : O} (e : h[i]? = some u) : (h.set i o)[i]? = some o := by
  rw [List.getElem?_set_self (List.getElem?_eq_some_iff.mp e).1]
theorem at_lt {h : Hh} {i : Nat} {u : O} (e : h[i]? = some u) : i < h.length := (List.getElem?_eq_some_iff.mp e).1
/-- .. below a, all but c -/
theorem wAcc_ext {g : Hh → Prop} {h0 : Hh} {elt : D → PQ → (Hh → Prop) → Hh → Prop} {k : Hh → Prop} (F : D → Option D) (hg : ∀ h, h0 <+: h → g h) : ∀ {ds : List D} {h : Hh} {acc : List D},
    (∀ d ∈ ds, ∀ q sk h', h0 <+: h' → h0.length < h'.length → (match F d with
      | some y => ∀ h'', h' <+: h'' → q y h''
      | none => ∀ h'', h' <+: h'' → sk h'') → elt d q sk h') →
    h0 <+: h → h[h0.length]? = some (.lst acc) → acc.length + ds.length ≤ 1000000 → (∀ h', h0 <+: h' → h'[h0.length]? = some (.lst (acc ++ ds.filterMap F)) → k h') → wAcc g h0.length elt k ds h
  | [], h, acc, he, p, ha, hl, hk => ⟨hg h p, hk h p (by simpa using ha)⟩
  | d :: ds, h, acc, he, p, ha, hl, hk => by
    refine ⟨hg h p, he d List.mem_cons_self _ _ h p (at_lt ha) ?_⟩
    cases e : F d with
    | some y =>
      intro h'' p2
      have ha2 := pre_at p2 ha
      rw [ha2]
      refine ⟨by rw [sizeLine_eq]; simp only [List.length_cons] at hl; omega, ?_⟩
      refine wAcc_ext F hg (fun d' hd' => he d' (List.mem_cons_of_mem _ hd')) (pre_set (p.trans p2) (Nat.le_refl _)) (set_self ha2) (by simp only [List.length_append, List.length_cons, List.length_nil] at hl ⊢; omega) fun h' p' ha' => hk h' p' ?_
      rw [ha', List.filterMap_cons, e, List.append_assoc]; rfl
    | none =>
      intro h'' p2
      exact wAcc_ext F hg (fun d' hd' => he d' (List.mem_cons_of_mem _ hd')) (p.trans p2) (pre_at p2 ha) (by simp only [List.length_cons] at hl; omega) fun h' p' ha' => hk h' p' (by rw [ha', List.filterMap_cons, e])
theorem filterMap_some {α β : Type} {f : α → β} {l : List α} : l.filterMap (fun x => some (f x)) = l.map f := by
  induction l with
  | nil => rfl
  | cons x l ih => rw [List.filterMap_cons, ih]; rfl
/-- .. each item has one -/
theorem wAcc_exm {g : Hh → Prop} {h0 : Hh} {elt : D → PQ → (Hh → Prop) → Hh → Prop} {k : Hh → Prop} (F : D → D) (hg : ∀ h, h0 <+: h → g h) {ds : List D} {h : Hh}
    (he : ∀ d ∈ ds, ∀ q sk h', h0 <+: h' → (∀ h'', h' <+: h'' → q (F d) h'') → elt d q sk h') (p : h = h0 ++ [.lst []]) (hl : ds.length ≤ 1000000) (hk : ∀ h', h0 <+: h' → h'[h0.length]? = some (.lst (ds.map F)) → k h') : wAcc g h0.length elt k ds h := by
  subst p
  refine wAcc_ext (fun d => some (F d)) hg (fun d hd q sk h' p _ hq => he d hd q sk h' p hq) (pre_snoc (List.prefix_refl _)) new_at (by simpa using hl) fun h' p ha => hk h' p ?_
  rw [ha, filterMap_some, List.nil_append]
/-- .. of what is made of l -/
theorem wAcc_xs {α : Type} {g : Hh → Prop} {h0 : Hh} {elt : D → PQ → (Hh → Prop) → Hh → Prop} {k : Hh → Prop} (G : α → D) (F : α → Option D) (hg : ∀ h, h0 <+: h → g h) : ∀ {l : List α} {h : Hh} {acc : List D},
    (∀ x ∈ l, ∀ q sk h', h0 <+: h' → h0.length < h'.length → (∀ y, F x = some y → ∀ h'', h' <+: h'' → q y h'') → (F x = none → ∀ h'', h' <+: h'' → sk h'') → elt (G x) q sk h') →
    h0 <+: h → h[h0.length]? = some (.lst acc) → acc.length + l.length ≤ 1000000 → (∀ h', h0 <+: h' → h'[h0.length]? = some (.lst (acc ++ l.filterMap F)) → k h') → wAcc g h0.length elt k (l.map G) h
  | [], h, acc, he, p, ha, hl, hk => ⟨hg h p, hk h p (by simpa using ha)⟩
  | d :: ds, h, acc, he, p, ha, hl, hk => by
    refine ⟨hg h p, he d List.mem_cons_self _ _ h p (at_lt ha) (fun y e h'' p2 => ?_) fun e h'' p2 => ?_⟩
    · have ha2 := pre_at p2 ha
      rw [ha2]
      refine ⟨by rw [sizeLine_eq]; simp only [List.length_cons] at hl; omega, ?_⟩
      refine wAcc_xs G F hg (fun d' hd' => he d' (List.mem_cons_of_mem _ hd')) (pre_set (p.trans p2) (Nat.le_refl _)) (set_self ha2) (by simp only [List.length_append, List.length_cons, List.length_nil] at hl ⊢; omega) fun h' p' ha' => hk h' p' ?_
      rw [ha', List.filterMap_cons, e, List.append_assoc]; rfl
    · exact wAcc_xs G F hg (fun d' hd' => he d' (List.mem_cons_of_mem _ hd')) (p.trans p2) (pre_at p2 ha) (by simp only [List.length_cons] at hl; omega) fun h' p' ha' => hk h' p' (by rw [ha', List.filterMap_cons, e])
theorem wAcc_m {α : Type} {g : Hh → Prop} {h0 : Hh} {elt : D → PQ → (Hh → Prop) → Hh → Prop} {k : Hh → Prop} (G : α → D) (F : α → D) {l : List α} (hg : ∀ h, h0 <+: h → g h)
    (he : ∀ x ∈ l, ∀ q sk h', h0 <+: h' → (∀ h'', h' <+: h'' → q (F x) h'') → elt (G x) q sk h') (hl : l.length ≤ 1000000) (hk : ∀ h', h0 <+: h' → h'[h0.length]? = some (.lst (l.map F)) → k h') : wAcc g h0.length elt k (l.map G) (h0 ++ [.lst []]) := by
  refine wAcc_xs G (fun d => some (F d)) hg (fun x hx q sk h' p _ hq _ => he x hx q sk h' p (hq _ rfl)) (pre_snoc (List.prefix_refl _)) new_at (by simpa using hl) fun h' p ha => hk h' p ?_
  rw [ha, filterMap_some, List.nil_append]
theorem wAccD_xs {α : Type} {g : Hh → Prop} {h0 : Hh} {elt : D → (D → D → Hh → Prop) → (Hh → Prop) → Hh → Prop} {k : Hh → Prop} (G : α → D) (F : α → Option (Ky × D)) (hg : ∀ h, h0 <+: h → g h) : ∀ {l : List α} {h : Hh} {acc : List (Ky × D)},
    (∀ x ∈ l, ∀ q sk h', h0 <+: h' → (∀ y, F x = some y → ∀ h'', h' <+: h'' → q y.1.d y.2 h'') → (F x = none → ∀ h'', h' <+: h'' → sk h'') → elt (G x) q sk h') →
    h0 <+: h → h[h0.length]? = some (.dct false acc) → acc.length + l.length ≤ 1000000 → (∀ h', h0 <+: h' → h'[h0.length]? = some (.dct false (mergeKd acc (l.filterMap F))) → k h') → wAccD g h0.length elt k (l.map G) h
  | [], h, acc, he, p, ha, hl, hk => ⟨hg h p, hk h p (by rw [ha]; rfl)⟩
  | d :: ds, h, acc, he, p, ha, hl, hk => by
    refine ⟨hg h p, he d List.mem_cons_self _ _ h p (fun y e h'' p2 => ?_) fun e h'' p2 => ?_⟩
    · have ha2 := pre_at p2 ha
      rw [ha2]
      have : y.1.d.ky = some y.1 := by cases y.1 <;> rfl
      rw [this]
      refine ⟨by rw [sizeLine_eq]; simp only [List.length_cons] at hl; omega, ?_⟩
      refine wAccD_xs G F hg (fun d' hd' => he d' (List.mem_cons_of_mem _ hd')) (pre_set (p.trans p2) (Nat.le_refl _)) (set_self ha2) ?_ fun h' p' ha' => hk h' p' ?_
      · have := putKd_len acc y.1 y.2
        simp only [List.length_cons] at hl; omega
      · rw [ha', List.filterMap_cons, e]; rfl
    · exact wAccD_xs G F hg (fun d' hd' => he d' (List.mem_cons_of_mem _ hd')) (p.trans p2) (pre_at p2 ha) (by simp only [List.length_cons] at hl; omega) fun h' p' ha' => hk h' p' (by rw [ha', List.filterMap_cons, e])
theorem wG_n {i : Nat} {d : D} {k : Sl → Hh → Prop} {τ : Sl} {h : Hh} (w : k (τ.set i (some d)) h) : wG (.n i) d k τ h := w
theorem wG_2 {i j : Nat} {x y : D} {k : Sl → Hh → Prop} {τ : Sl} {h : Hh} (w : k ((τ.set i (some x)).set j (some y)) h) : wG (.t (.cons (.n i) (.cons (.n j) .nil))) (.tup [x, y]) k τ h := w
theorem wG_3 {i j l : Nat} {x y z : D} {k : Sl → Hh → Prop} {τ : Sl} {h : Hh} (w : k (((τ.set i (some x)).set j (some y)).set l (some z)) h) : wG (.t (.cons (.n i) (.cons (.n j) (.cons (.n l) .nil)))) (.tup [x, y, z]) k τ h := w
/-! ### any, all of tests -/
theorem blsD_map {α : Type} {f : α → Bool} : ∀ l : List α, blsD (l.map fun x => .bl (f x)) = some (l.map f)
  | [] => rfl
  | x :: l => by rw [List.map_cons, blsD, blsD_map l]; rfl
end Mi

set_option Elab.async false
set_option linter.all false
set_option maxRecDepth 100000
set_option maxHeartbeats 4000000
/-! unifying: what the defs do, in the order of the law's text -/
namespace Mi
open PySem PySem.Spec PyProof.Rows L2
namespace Uf
def b0 : Mi.Fd := ⟨1, 4, (.cons (.asg (.n 1) (.lst .nil))
  (.cons (.loop (.n 2) (.nm 0) (.cons (.ite (.isi .str (.v 2)) (.cons (.ex (.mt .append (.v 1) (.cons (.v 2) .nil)))
  .nil) (.cons (.ex (.mt .append (.v 1) (.cons (.tup (.cons (.op .ix (.v 2) (.k (.int 0))) (.cons (.bi .tuple (.cons (.cp (.n 3) (.of (.op .ix (.v 2) (.k (.int 1)))) .no (.op .ix (.v 1) (.v 3)) [3]) .nil)) .nil))) .nil)))
  .nil))
  .nil))
  (.cons (.ret (.v 1))
  .nil)))⟩
def b1 : Mi.Fd := ⟨1, 4, (.cons (.asg (.n 1) (.lst .nil))
  (.cons (.loop (.n 2) (.nm 0) (.cons (.ex (.mt .append (.v 1) (.cons (.ite (.isi .str (.v 2)) (.k (.int 1)) (.op .add (.k (.int 1)) (.bi .sum (.cons (.cp (.n 3) (.of (.op .ix (.v 2) (.k (.int 1)))) .no (.op .ix (.v 1) (.v 3)) [3]) .nil)))) .nil)))
  .nil))
  (.cons (.ret (.v 1))
  .nil)))⟩
def b2 : Mi.Fd := ⟨1, 1, (.cons (.ret (.call 6 (.cons (.v 0) (.cons (.k (.str [97, 98, 99, 100, 101, 102, 103, 104, 105, 106, 107, 108, 109, 110, 111, 112, 113, 114, 115, 116, 117, 118, 119, 120, 121, 122, 48, 49, 50, 51, 52, 53, 54, 55, 56, 57])) (.cons (.k (.int 8)) .nil)))))
  .nil)⟩
def b3 : Mi.Fd := ⟨1, 1, (.cons (.ret (.call 6 (.cons (.v 0) (.cons (.k (.str [65, 66, 67, 68, 69, 70, 71, 72, 73, 74, 75, 76, 77, 78, 79, 80, 81, 82, 83, 84, 85, 86, 87, 88, 89, 90])) (.cons (.k (.int 3)) .nil)))))
  .nil)⟩
def b4 : Mi.Fd := ⟨1, 1, (.cons (.ret (.chain .le .le (.k (.int 1)) (.call 7 (.cons (.v 0) (.cons (.k (.int 6)) .nil))) (.k (.int 30))))
  .nil)⟩
def b5 : Mi.Fd := ⟨1, 3, (.cons (.ite (.or (.not (.isi .tup (.v 0))) (.op .ne (.bi .len (.cons (.v 0) .nil)) (.k (.int 2)))) (.cons (.ret (.k (.bl false)))
  .nil) .nil)
  (.cons (.asg (.t (.cons (.n 1) (.cons (.n 2) .nil))) (.v 0))
  (.cons (.ret (.and (.call 2 (.cons (.v 1) .nil)) (.and (.isi .tup (.v 2)) (.op .le (.bi .len (.cons (.v 2) .nil)) (.k (.int 4))))))
  .nil)))⟩
def b6 : Mi.Fd := ⟨3, 4, (.cons (.ite (.or (.not (.isi .str (.v 0))) (.not (.chain .le .le (.k (.int 1)) (.bi .len (.cons (.v 0) .nil)) (.v 2)))) (.cons (.ret (.k (.bl false)))
  .nil) .nil)
  (.cons (.ret (.bi .all (.cons (.cp (.n 3) (.nm 0) .no (.op .inn (.v 3) (.v 1)) [3]) .nil)))
  .nil))⟩
def b7 : Mi.Fd := ⟨2, 5, (.cons (.ite (.op .eq (.v 1) (.k (.int 0))) (.cons (.ret (.k (.int 0)))
  .nil) .nil)
  (.cons (.ite (.isi .str (.v 0)) (.cons (.ret (.ite (.call 3 (.cons (.v 0) .nil)) (.k (.int 1)) (.k (.int 0))))
  .nil) .nil)
  (.cons (.ite (.not (.call 5 (.cons (.v 0) .nil))) (.cons (.ret (.k (.int 0)))
  .nil) .nil)
  (.cons (.asg (.n 2) (.k (.int 1)))
  (.cons (.loop (.n 3) (.of (.op .ix (.v 0) (.k (.int 1)))) (.cons (.asg (.n 4) (.call 7 (.cons (.v 3) (.cons (.op .sub (.v 1) (.k (.int 1))) .nil))))
  (.cons (.ite (.op .eq (.v 4) (.k (.int 0))) (.cons (.ret (.k (.int 0)))
  .nil) .nil)
  (.cons (.asg (.n 2) (.op .add (.v 2) (.v 4)))
  .nil))))
  (.cons (.ret (.v 2))
  .nil))))))⟩
def b8 : Mi.Fd := ⟨1, 11, (.cons (.ite (.not (.call 10 (.cons (.v 0) .nil))) (.cons (.rse 2 (.cons (.k (.str [116, 104, 105, 115, 32, 105, 115, 32, 110, 111, 116, 32, 97, 32, 108, 105, 115, 116, 32, 111, 102, 32, 112, 97, 105, 114, 115, 32, 111, 102, 32, 116, 101, 114, 109, 115])) .nil))
  .nil) .nil)
  (.cons (.asg (.n 1) (.cp2 (.n 2) (.nm 0) .no (.n 3) (.nm 2) .no (.v 3) [2, 3] [3]))
  (.cons (.asg (.n 4) (.call 9 (.cons (.v 1) (.cons (.cp (.n 5) (.r1 (.bi .len (.cons (.v 0) .nil))) .no (.tup (.cons (.op .mul (.k (.int 2)) (.v 5)) (.cons (.op .add (.op .mul (.k (.int 2)) (.v 5)) (.k (.int 1))) .nil))) [5]) (.cons (.k (.int 60)) .nil)))))
  (.cons (.ite (.op .iss (.v 4) (.k .non)) (.cons (.ret (.k .non))
  .nil) .nil)
  (.cons (.asg (.t (.cons (.n 6) (.cons (.n 7) (.cons (.n 8) .nil)))) (.v 4))
  (.cons (.asg (.n 9) (.call 0 (.cons (.v 6) .nil)))
  (.cons (.ret (.dc (.n 10) (.of (.bi .sortd (.cons (.v 7) .nil))) .no (.v 10) (.op .ix (.v 9) (.op .ix (.v 7) (.v 10))) [10]))
  .nil)))))))⟩
def b9 : Mi.Fd := ⟨3, 18, (.cons (.ite (.bi .any (.cons (.cp (.t (.cons (.n 3) (.cons (.n 4) .nil))) (.nm 1) .no (.call 12 (.cons (.op .ix (.v 0) (.v 3)) (.cons (.op .ix (.v 0) (.v 4)) .nil))) [3, 4]) .nil)) (.cons (.ret (.k .non))
  .nil) .nil)
  (.cons (.asg (.t (.cons (.n 5) (.cons (.n 6) .nil))) (.call 13 (.cons (.v 0) .nil)))
  (.cons (.asg (.n 7) (.call 16 (.cons (.v 5) (.cons (.v 6) (.cons (.op .add (.v 1) (.call 15 (.cons (.v 5) .nil))) .nil)))))
  (.cons (.ite (.op .iss (.v 7) (.k .non)) (.cons (.ret (.k .non))
  .nil) .nil)
  (.cons (.asg (.n 8) (.call 19 (.cons (.v 5) (.cons (.v 6) (.cons (.v 7) .nil)))))
  (.cons (.asg (.n 9) (.call 21 (.cons (.v 8) .nil)))
  (.cons (.ite (.op .iss (.v 9) (.k .non)) (.cons (.ret (.k .non))
  .nil) .nil)
  (.cons (.asg (.n 10) (.dc (.t (.cons (.n 11) (.cons (.n 12) .nil))) (.en (.v 9)) .no (.v 12) (.v 11) [11, 12]))
  (.cons (.asg (.n 13) (.cp (.n 12) (.nm 9) .no (.call 22 (.cons (.op .ix (.v 8) (.v 12)) (.cons (.v 10) .nil))) [12]))
  (.cons (.asg (.n 14) (.dc (.t (.cons (.n 15) (.cons (.n 16) .nil))) (.en (.v 5)) (.so (.isi .str (.v 16))) (.v 16) (.op .ix (.v 10) (.op .ix (.v 7) (.v 15))) [15, 16]))
  (.cons (.ite (.op .isnt (.v 2) (.k .non)) (.cons (.asg (.n 17) (.call 1 (.cons (.v 13) .nil)))
  (.cons (.ite (.bi .any (.cons (.cp (.n 11) (.vls 14) .no (.op .gt (.op .ix (.v 17) (.v 11)) (.v 2)) [11]) .nil)) (.cons (.rse 3 (.cons (.k (.str [97, 32, 116, 101, 114, 109, 32, 104, 97, 115, 32, 116, 111, 111, 32, 109, 97, 110, 121, 32, 110, 97, 109, 101, 115, 32, 97, 110, 100, 32, 118, 97, 114, 105, 97, 98, 108, 101, 115])) .nil))
  .nil) .nil)
  .nil)) .nil)
  (.cons (.ret (.tup (.cons (.v 13) (.cons (.v 14) (.cons (.cp (.n 12) (.of (.sl (.v 7) .no (.so (.bi .len (.cons (.v 0) .nil))))) .no (.op .ix (.v 10) (.v 12)) [12]) .nil)))))
  .nil))))))))))))⟩
def b10 : Mi.Fd := ⟨1, 2, (.cons (.ite (.or (.not (.isi .lst (.v 0))) (.op .gt (.bi .len (.cons (.v 0) .nil)) (.k (.int 10)))) (.cons (.ret (.k (.bl false)))
  .nil) .nil)
  (.cons (.ret (.bi .all (.cons (.cp (.n 1) (.nm 0) .no (.call 11 (.cons (.v 1) .nil)) [1]) .nil)))
  .nil))⟩
def b11 : Mi.Fd := ⟨1, 2, (.cons (.ret (.and (.isi .tup (.v 0)) (.and (.op .eq (.bi .len (.cons (.v 0) .nil)) (.k (.int 2))) (.bi .all (.cons (.cp (.n 1) (.nm 0) .no (.call 4 (.cons (.v 1) .nil)) [1]) .nil)))))
  .nil)⟩
def b12 : Mi.Fd := ⟨2, 5, (.cons (.asg (.n 2) (.lst (.cons (.tup (.cons (.v 0) (.cons (.v 1) .nil))) .nil)))
  (.cons (.whl (.v 2) (.cons (.asg (.t (.cons (.n 3) (.cons (.n 4) .nil))) (.mt .pop (.v 2) .nil))
  (.cons (.ite (.or (.isi .str (.v 3)) (.isi .str (.v 4))) (.cons .cnt
  .nil) .nil)
  (.cons (.ite (.not (.call 18 (.cons (.v 3) (.cons (.v 4) .nil)))) (.cons (.ret (.k (.bl true)))
  .nil) .nil)
  (.cons (.ex (.mt .extend (.v 2) (.cons (.bi .lzip (.cons (.op .ix (.v 3) (.k (.int 1))) (.cons (.op .ix (.v 4) (.k (.int 1))) .nil))) .nil)))
  .nil)))))
  (.cons (.ret (.k (.bl false)))
  .nil)))⟩
def b13 : Mi.Fd := ⟨1, 10, (.cons (.asg (.n 1) (.bi .list (.cons (.v 0) .nil)))
  (.cons (.asg (.n 2) (.lst .nil))
  (.cons (.asg (.n 3) (.dct .nil))
  (.cons (.whl (.op .lt (.bi .len (.cons (.v 2) .nil)) (.bi .len (.cons (.v 1) .nil))) (.cons (.asg (.n 4) (.op .ix (.v 1) (.bi .len (.cons (.v 2) .nil))))
  (.cons (.asg (.n 5) (.lst .nil))
  (.cons (.asg (.n 6) (.ite (.isi .str (.v 4)) (.tup .nil) (.op .ix (.v 4) (.k (.int 1)))))
  (.cons (.loop (.n 7) (.nm 6) (.cons (.asg (.n 8) (.call 14 (.cons (.v 7) .nil)))
  (.cons (.asg (.n 9) (.mt .get (.v 3) (.cons (.v 8) (.cons (.bi .len (.cons (.v 1) .nil)) .nil))))
  (.cons (.ite (.op .eq (.v 9) (.bi .len (.cons (.v 1) .nil))) (.cons (.ex (.mt .append (.v 1) (.cons (.v 7) .nil)))
  .nil) .nil)
  (.cons (.ite (.op .isnt (.v 8) (.k .non)) (.cons (.sub (.v 3) (.v 8) (.v 9))
  .nil) .nil)
  (.cons (.ex (.mt .append (.v 5) (.cons (.v 9) .nil)))
  .nil))))))
  (.cons (.ex (.mt .append (.v 2) (.cons (.v 5) .nil)))
  .nil))))))
  (.cons (.ret (.tup (.cons (.v 1) (.cons (.v 2) .nil))))
  .nil)))))⟩
def b14 : Mi.Fd := ⟨1, 1, (.cons (.ite (.isi .str (.v 0)) (.cons (.ret (.v 0))
  .nil) .nil)
  (.cons (.ret (.ite (.op .ix (.v 0) (.k (.int 1))) (.k .non) (.op .ix (.v 0) (.k (.int 0)))))
  .nil))⟩
def b15 : Mi.Fd := ⟨1, 4, (.cons (.asg (.n 1) (.dct .nil))
  (.cons (.loop (.t (.cons (.n 2) (.cons (.n 3) .nil))) (.en (.v 0)) (.cons (.ite (.isi .str (.v 3)) (.cons (.ex (.mt .setdefault (.v 1) (.cons (.v 3) (.cons (.v 2) .nil))))
  .nil) .nil)
  .nil))
  (.cons (.ret (.cp (.t (.cons (.n 2) (.cons (.n 3) .nil))) (.en (.v 0)) (.so (.and (.isi .str (.v 3)) (.op .ne (.op .ix (.v 1) (.v 3)) (.v 2)))) (.tup (.cons (.op .ix (.v 1) (.v 3)) (.cons (.v 2) .nil))) [2, 3]))
  .nil)))⟩
def b16 : Mi.Fd := ⟨3, 12, (.cons (.asg (.n 3) (.bi .lrng (.cons (.bi .len (.cons (.v 0) .nil)) .nil)))
  (.cons (.asg (.n 4) (.bi .lrng (.cons (.bi .len (.cons (.v 0) .nil)) .nil)))
  (.cons (.asg (.n 5) (.op .mul (.lst (.cons (.k (.int 1)) .nil)) (.bi .len (.cons (.v 0) .nil))))
  (.cons (.asg (.n 6) (.bi .list (.cons (.v 2) .nil)))
  (.cons (.whl (.v 6) (.cons (.asg (.t (.cons (.n 7) (.cons (.n 8) .nil))) (.mt .pop (.v 6) .nil))
  (.cons (.par 9 10 (.call 17 (.cons (.v 3) (.cons (.v 7) .nil))) (.call 17 (.cons (.v 3) (.cons (.v 8) .nil))))
  (.cons (.ite (.op .eq (.v 9) (.v 10)) (.cons .cnt
  .nil) .nil)
  (.cons (.ite (.op .lt (.op .ix (.v 5) (.v 9)) (.op .ix (.v 5) (.v 10))) (.cons (.par 9 10 (.v 10) (.v 9))
  .nil) .nil)
  (.cons (.sub (.v 3) (.v 10) (.v 9))
  (.cons (.sub (.v 5) (.v 9) (.op .add (.op .ix (.v 5) (.v 9)) (.op .ix (.v 5) (.v 10))))
  (.cons (.par 7 8 (.op .ix (.v 4) (.v 9)) (.op .ix (.v 4) (.v 10)))
  (.cons (.ite (.isi .str (.op .ix (.v 0) (.v 7))) (.cons (.sub (.v 4) (.v 9) (.v 8))
  .nil) (.cons (.ite (.not (.isi .str (.op .ix (.v 0) (.v 8)))) (.cons (.ite (.not (.call 18 (.cons (.op .ix (.v 0) (.v 7)) (.cons (.op .ix (.v 0) (.v 8)) .nil)))) (.cons (.ret (.k .non))
  .nil) .nil)
  (.cons (.ex (.mt .extend (.v 6) (.cons (.bi .lzip (.cons (.op .ix (.v 1) (.v 7)) (.cons (.op .ix (.v 1) (.v 8)) .nil))) .nil)))
  .nil)) .nil)
  .nil))
  .nil)))))))))
  (.cons (.ret (.cp (.n 11) (.r1 (.bi .len (.cons (.v 0) .nil))) .no (.op .ix (.v 4) (.call 17 (.cons (.v 3) (.cons (.v 11) .nil)))) [11]))
  .nil))))))⟩
def b17 : Mi.Fd := ⟨2, 2, (.cons (.whl (.op .ne (.op .ix (.v 0) (.v 1)) (.v 1)) (.cons (.asg (.n 1) (.op .ix (.v 0) (.v 1)))
  .nil))
  (.cons (.ret (.v 1))
  .nil))⟩
def b18 : Mi.Fd := ⟨2, 2, (.cons (.ret (.and (.op .eq (.op .ix (.v 0) (.k (.int 0))) (.op .ix (.v 1) (.k (.int 0)))) (.op .eq (.bi .len (.cons (.op .ix (.v 0) (.k (.int 1))) .nil)) (.bi .len (.cons (.op .ix (.v 1) (.k (.int 1))) .nil)))))
  .nil)⟩
def b19 : Mi.Fd := ⟨3, 7, (.cons (.asg (.n 3) (.dct .nil))
  (.cons (.loop (.t (.cons (.n 4) (.cons (.n 5) .nil))) (.zp (.v 0) (.v 2)) (.cons (.ite (.isi .str (.op .ix (.v 0) (.v 5))) (.cons (.sub (.v 3) (.v 5) (.bi .min2 (.cons (.v 4) (.cons (.mt .get (.v 3) (.cons (.v 5) (.cons (.v 4) .nil))) .nil))))
  .nil) (.cons (.sub (.v 3) (.v 5) (.tup (.cons (.op .ix (.op .ix (.v 0) (.v 5)) (.k (.int 0))) (.cons (.cp (.n 6) (.of (.op .ix (.v 1) (.v 5))) .no (.op .ix (.v 2) (.v 6)) [6]) .nil))))
  .nil))
  .nil))
  (.cons (.ret (.v 3))
  .nil)))⟩
def b20 : Mi.Fd := ⟨1, 1, (.cons (.ret (.ite (.isi .str (.v 0)) (.lst .nil) (.op .ix (.v 0) (.k (.int 1)))))
  .nil)⟩
def b21 : Mi.Fd := ⟨1, 11, (.cons (.asg (.n 1) (.dct .nil))
  (.cons (.asg (.n 2) (.dct .nil))
  (.cons (.loop (.n 3) (.nm 0) (.cons (.sub (.v 1) (.v 3) (.lst .nil))
  .nil))
  (.cons (.loop (.t (.cons (.n 3) (.cons (.n 4) .nil))) (.its 0) (.cons (.asg (.n 5) (.call 20 (.cons (.v 4) .nil)))
  (.cons (.sub (.v 2) (.v 3) (.bi .len (.cons (.v 5) .nil)))
  (.cons (.loop (.n 6) (.nm 5) (.cons (.ex (.mt .append (.op .ix (.v 1) (.v 6)) (.cons (.v 3) .nil)))
  .nil))
  .nil))))
  (.cons (.asg (.n 7) (.cp (.n 3) (.nm 0) (.so (.op .eq (.op .ix (.v 2) (.v 3)) (.k (.int 0)))) (.v 3) [3]))
  (.cons (.asg (.n 8) (.k (.int 0)))
  (.cons (.whl (.op .lt (.v 8) (.bi .len (.cons (.v 7) .nil))) (.cons (.asg (.n 9) (.op .ix (.v 7) (.v 8)))
  (.cons (.aug 8 .add (.k (.int 1)))
  (.cons (.loop (.n 10) (.of (.op .ix (.v 1) (.v 9))) (.cons (.sub (.v 2) (.v 10) (.op .sub (.op .ix (.v 2) (.v 10)) (.k (.int 1))))
  (.cons (.ite (.op .eq (.op .ix (.v 2) (.v 10)) (.k (.int 0))) (.cons (.ex (.mt .append (.v 7) (.cons (.v 10) .nil)))
  .nil) .nil)
  .nil)))
  .nil))))
  (.cons (.ret (.ite (.op .eq (.bi .len (.cons (.v 7) .nil)) (.bi .len (.cons (.v 0) .nil))) (.v 7) (.k .non)))
  .nil))))))))⟩
def b22 : Mi.Fd := ⟨2, 3, (.cons (.ret (.ite (.isi .str (.v 0)) (.v 0) (.tup (.cons (.op .ix (.v 0) (.k (.int 0))) (.cons (.bi .tuple (.cons (.cp (.n 2) (.of (.op .ix (.v 0) (.k (.int 1)))) .no (.op .ix (.v 1) (.v 2)) [2]) .nil)) .nil)))))
  .nil)⟩
def U0 : List Mi.Fd := [b0, b1, b2, b3, b4, b5, b6, b7, b8, b9, b10, b11, b12, b13, b14, b15, b16, b17, b18, b19, b20, b21, b22]
end Uf
/-- the program's defs stand first -/
def HasU (B : List Fd) : Prop := ∀ (i : Nat) (b : Fd), Uf.U0[i]? = some b → B[i]? = some b
end Mi

set_option Elab.async false
set_option linter.all false
set_option maxRecDepth 100000
set_option maxHeartbeats 4000000
/-! unifying: terms as data; the small defs -/
namespace Mi
open PySem PySem.Spec PyProof.Rows L2 Un
mutual
def dT : Tx → D
  | .v x => .str x
  | .a n ts => .tup [.str n, .tup (dTs ts)]
def dTs : List Tx → List D
  | [] => []
  | t :: ts => dT t :: dTs ts
end
theorem dTs_map : ∀ ts, dTs ts = ts.map dT
  | [] => rfl
  | t :: ts => by rw [dTs, dTs_map ts, List.map_cons]
theorem dT_a {n : Wd} {ts : List Tx} : dT (.a n ts) = .tup [.str n, .tup (ts.map dT)] := by rw [dT, dTs_map]
theorem dT_v {x : Wd} : dT (.v x) = .str x := by rw [dT]
theorem dT_inj : ∀ s t : Tx, dT s = dT t → s = t := by
  apply Tx.ind (P := fun s => ∀ t, dT s = dT t → s = t)
  · intro x t e
    cases t with
    | v y => rw [dT_v, dT_v] at e; cases e; rfl
    | a n ts => rw [dT_v, dT_a] at e; cases e
  · intro n ts ih t e
    cases t with
    | v y => rw [dT_v, dT_a] at e; cases e
    | a m us =>
      rw [dT_a, dT_a] at e
      injection e with e
      injection e with e1 e
      injection e with e2 _
      injection e1 with e1
      injection e2 with e2
      subst e1
      congr 1
      induction ts generalizing us with
      | nil => cases us with
        | nil => rfl
        | cons u us => cases e2
      | cons t ts ihl =>
        cases us with
        | nil => cases e2
        | cons u us =>
          rw [List.map_cons, List.map_cons] at e2
          injection e2 with a b
          rw [ih t List.mem_cons_self u a, ihl (fun x hx => ih x (List.mem_cons_of_mem _ hx)) us b]
def isV : Tx → Bool
  | .v _ => true
  | .a _ _ => false
section
variable {h : Hh}
theorem isi_dT {t : Tx} : isiS .str h (dT t) = some (.bl (isV t), h) := by
  cases t with
  | v x => rw [dT_v]; rfl
  | a n ts => rw [dT_a]; rfl
theorem ix0_dT {n : Wd} {ts : List Tx} : ixS h (dT (.a n ts)) (.int 0) = some (.str n, h) := by rw [dT_a]; rfl
theorem ix1_dT {n : Wd} {ts : List Tx} : ixS h (dT (.a n ts)) (.int 1) = some (.tup (ts.map dT), h) := by rw [dT_a]; rfl
theorem eqS_str {a b : List Nat} : eqS h (.str a) (.str b) = some (.bl (a == b), h) := rfl
theorem neS_str {a b : List Nat} : neS h (.str a) (.str b) = some (.bl (!(a == b)), h) := rfl
theorem eqS_int {a b : Int} : eqS h (.int a) (.int b) = some (.bl (a == b), h) := rfl
theorem neS_int {a b : Int} : neS h (.int a) (.int b) = some (.bl (!(a == b)), h) := rfl
theorem nD_beq {a b : Nat} : ((a : Int) == (b : Int)) = decide (a = b) := by
  by_cases c : a = b
  · subst c; simp
  · rw [decide_eq_false c]; exact beq_eq_false_iff_ne.mpr (by omega)
theorem ixS_fn {a N i : Nat} {f : Nat → D} (e : h[a]? = some (.lst (fnD N f))) (hi : i < N) : ixS h (.ref a) (nD i) = some (f i, h) := ixS_ref (asL_at e) (atI_fn hi)
theorem lenS_fn {a N : Nat} {f : Nat → D} (e : h[a]? = some (.lst (fnD N f))) : lenS h [.ref a] = some (nD N, h) := by rw [lenS_ref (asL_at e), fnD_len]; rfl
end
def wordT : Tx → Option (List Nat)
  | .v x => some x
  | .a n [] => some n
  | .a _ _ => none
def wD : Option (List Nat) → D
  | some w => .str w
  | none => .non
section
variable {Z : Zi} {B : List Fd} (hU : HasU B)
include hU
theorem canOne_w {j : Nat} {n m : Wd} {ts us : List Tx} {h : Hh} {Q : PQ} {Qx : PX} (k : Q (.bl (decide (n = m ∧ ts.length = us.length))) h) : WPc Z B (j + 1) 18 [dT (.a n ts), dT (.a m us)] h Q Qx := by
  unfold WPc
  rw [hU 18 _ rfl]
  refine ⟨rfl, ?_⟩
  show wSs Z _ Uf.b18.body _ [some (dT (.a n ts)), some (dT (.a m us))] h
  unfold Uf.b18
  refine wSs_c ?_
  simp only [wS, wE, wEs, wPs, kysOf, D.ky, wO, wT, wI, wG, gAs, gAss, setA, List.foldl_cons, List.foldl_nil, Op2.sem, Bi.sem, okS, okB, En.px, List.getElem?_cons_zero, List.getElem?_cons_succ, List.set_cons_zero, List.set_cons_succ, List.map_cons, List.map_nil, List.cons_append, List.nil_append, List.append_nil, Bool.false_eq_true, if_true, if_false, reduceIte]
  simp only [ix0_dT, ix1_dT, eqS_str, truD_b, lenS_tup, eqS_int, List.length_map, nD_beq]
  by_cases c : n = m
  · subst c
    simpa using k
  · rw [beq_eq_false_iff_ne.mpr c]
    simpa [c] using k
theorem within_w {j : Nat} {h : Hh} {Q : PQ} {Qx : PX} (d : D) (hd : (∃ x, d = .str x) ∨ ∃ y z, d = .tup [y, z]) (k : (∀ x, d = .str x → Q (.ref h.length) (h ++ [.lst []])) ∧ ∀ y z, d = .tup [y, z] → Q z h) : WPc Z B (j + 1) 20 [d] h Q Qx := by
  unfold WPc
  rw [hU 20 _ rfl]
  refine ⟨rfl, ?_⟩
  show wSs Z _ Uf.b20.body _ [some d] h
  unfold Uf.b20
  refine wSs_c ?_
  rcases hd with ⟨x, rfl⟩ | ⟨y, z, rfl⟩
  · simp only [wS, wE, wEs, wPs, kysOf, D.ky, wO, wT, wI, wG, gAs, gAss, setA, List.foldl_cons, List.foldl_nil, Op2.sem, Bi.sem, okS, okB, En.px, List.getElem?_cons_zero, List.getElem?_cons_succ, List.set_cons_zero, List.set_cons_succ, List.map_cons, List.map_nil, List.cons_append, List.nil_append, List.append_nil, Bool.false_eq_true, if_true, if_false, reduceIte]
    rw [show isiS .str h (.str x) = some (.bl true, h) from rfl]
    simp only [truD_b, if_true]
    exact ⟨by rw [sizeLine_eq]; simp, k.1 x rfl⟩
  · simp only [wS, wE, wEs, wPs, kysOf, D.ky, wO, wT, wI, wG, gAs, gAss, setA, List.foldl_cons, List.foldl_nil, Op2.sem, Bi.sem, okS, okB, En.px, List.getElem?_cons_zero, List.getElem?_cons_succ, List.set_cons_zero, List.set_cons_succ, List.map_cons, List.map_nil, List.cons_append, List.nil_append, List.append_nil, Bool.false_eq_true, if_true, if_false, reduceIte]
    rw [show isiS .str h (.tup [y, z]) = some (.bl false, h) from rfl]
    simp only [truD_b, Bool.false_eq_true, if_false]
    exact k.2 y z rfl
theorem word_w {j : Nat} {t : Tx} {h : Hh} {Q : PQ} {Qx : PX} (k : Q (wD (wordT t)) h) : WPc Z B (j + 1) 14 [dT t] h Q Qx := by
  unfold WPc
  rw [hU 14 _ rfl]
  refine ⟨rfl, ?_⟩
  show wSs Z _ Uf.b14.body _ [some (dT t)] h
  unfold Uf.b14
  refine wSs_c ?_
  simp only [wS, wE, wEs, wPs, kysOf, D.ky, wO, wT, wI, wG, gAs, gAss, setA, List.foldl_cons, List.foldl_nil, Op2.sem, Bi.sem, okS, okB, En.px, List.getElem?_cons_zero, List.getElem?_cons_succ, List.set_cons_zero, List.set_cons_succ, List.map_cons, List.map_nil, List.cons_append, List.nil_append, List.append_nil, Bool.false_eq_true, if_true, if_false, reduceIte]
  simp only [isi_dT, truD_b]
  cases t with
  | v x =>
    simp only [isV, if_true]
    refine wSs_c ?_
    simp only [wS, wE, wEs, wPs, kysOf, D.ky, wO, wT, wI, wG, gAs, gAss, setA, List.foldl_cons, List.foldl_nil, Op2.sem, Bi.sem, okS, okB, En.px, List.getElem?_cons_zero, List.getElem?_cons_succ, List.set_cons_zero, List.set_cons_succ, List.map_cons, List.map_nil, List.cons_append, List.nil_append, List.append_nil, Bool.false_eq_true, if_true, if_false, reduceIte]
    rw [dT_v]; exact k
  | a n ts =>
    simp only [isV, Bool.false_eq_true, if_false]
    refine wSs_n (wSs_c ?_)
    simp only [wS, wE, wEs, wPs, kysOf, D.ky, wO, wT, wI, wG, gAs, gAss, setA, List.foldl_cons, List.foldl_nil, Op2.sem, Bi.sem, okS, okB, En.px, List.getElem?_cons_zero, List.getElem?_cons_succ, List.set_cons_zero, List.set_cons_succ, List.map_cons, List.map_nil, List.cons_append, List.nil_append, List.append_nil, Bool.false_eq_true, if_true, if_false, reduceIte]
    simp only [ix0_dT, ix1_dT]
    cases ts with
    | nil => exact k
    | cons u us => exact k
theorem top_w {j N a i : Nat} {tp rt dp : Nat → Nat} {h : Hh} {Q : PQ} {Qx : PX} (e : h[a]? = some (.lst (fnD N fun i => nD (tp i)))) (hi : i < N) (tlt : ∀ i, i < N → tp i < N) (up : ∀ i, i < N → rt (tp i) = rt i) (root : ∀ i, i < N → (tp i = i ↔ rt i = i)) (dep : ∀ i, i < N → tp i ≠ i → dp (tp i) < dp i)
    (k : Q (nD (rt i)) h) : WPc Z B (j + 1) 17 [.ref a, nD i] h Q Qx := by
  unfold WPc
  rw [hU 17 _ rfl]
  refine ⟨rfl, ?_⟩
  show wSs Z _ Uf.b17.body _ [some (.ref a), some (nD i)] h
  unfold Uf.b17
  refine wSs_c ?_
  simp only [wS]
  refine ⟨fun m τ h' => h' = h ∧ ∃ l, l < N ∧ rt l = rt i ∧ dp l = m ∧ τ = [some (.ref a), some (nD l)], ⟨_, rfl, i, hi, rfl, rfl, rfl⟩, ?_⟩
  rintro m τ h' ⟨rfl, l, hl, hr, hd, rfl⟩
  simp only [wS, wE, wEs, wPs, kysOf, D.ky, wO, wT, wI, wG, gAs, gAss, setA, List.foldl_cons, List.foldl_nil, Op2.sem, Bi.sem, okS, okB, En.px, List.getElem?_cons_zero, List.getElem?_cons_succ, List.set_cons_zero, List.set_cons_succ, List.map_cons, List.map_nil, List.cons_append, List.nil_append, List.append_nil, Bool.false_eq_true, if_true, if_false, reduceIte]
  simp only [ixS_fn e hl]
  rw [show neS h' (nD (tp l)) (nD l) = some (.bl (!decide (tp l = l)), h') from by rw [← nD_beq]; rfl]
  simp only [truD_b]
  by_cases c : tp l = l
  · simp only [c, decide_true, Bool.not_true, Bool.false_eq_true, if_false]
    refine wSs_c ?_
    simp only [wS, wE, wEs, wPs, kysOf, D.ky, wO, wT, wI, wG, gAs, gAss, setA, List.foldl_cons, List.foldl_nil, Op2.sem, Bi.sem, okS, okB, En.px, List.getElem?_cons_zero, List.getElem?_cons_succ, List.set_cons_zero, List.set_cons_succ, List.map_cons, List.map_nil, List.cons_append, List.nil_append, List.append_nil, Bool.false_eq_true, if_true, if_false, reduceIte]
    rw [← (root l hl).1 c, hr]; exact k
  · simp only [c, decide_false, Bool.not_false, if_true]
    refine wSs_c ?_
    simp only [wS, wE, wEs, wPs, kysOf, D.ky, wO, wT, wI, wG, gAs, gAss, setA, List.foldl_cons, List.foldl_nil, Op2.sem, Bi.sem, okS, okB, En.px, List.getElem?_cons_zero, List.getElem?_cons_succ, List.set_cons_zero, List.set_cons_succ, List.map_cons, List.map_nil, List.cons_append, List.nil_append, List.append_nil, Bool.false_eq_true, if_true, if_false, reduceIte]
    simp only [ixS_fn e hl]
    refine wSs_n ⟨_, ?_, rfl, tp l, tlt l hl, by rw [up l hl, hr], rfl, rfl⟩
    rw [← hd]
    exact dep l hl c
end
end Mi

set_option Elab.async false
set_option linter.all false
set_option maxRecDepth 100000
set_option maxHeartbeats 4000000
/-! unifying: what is a term, a pair -/
namespace Mi
open PySem PySem.Spec PyProof.Rows L2 Un
def isWd (x sg : List Nat) (m : Nat) : Bool := decide (1 ≤ x.length ∧ x.length ≤ m) && x.all fun c => decide (c ∈ sg)
def nmSg : List Nat := [97, 98, 99, 100, 101, 102, 103, 104, 105, 106, 107, 108, 109, 110, 111, 112, 113, 114, 115, 116, 117, 118, 119, 120, 121, 122, 48, 49, 50, 51, 52, 53, 54, 55, 56, 57]
def vrSg : List Nat := [65, 66, 67, 68, 69, 70, 71, 72, 73, 74, 75, 76, 77, 78, 79, 80, 81, 82, 83, 84, 85, 86, 87, 88, 89, 90]
def isNm (x : List Nat) : Bool := isWd x nmSg 8
def isVr (x : List Nat) : Bool := isWd x vrSg 3
mutual
def wds : Tx → Nat → Nat
  | _, 0 => 0
  | .v x, _ + 1 => if isVr x then 1 else 0
  | .a n ts, k + 1 => if (isNm n && decide (ts.length ≤ 4)) = true then wdss ts k 1 else 0
def wdss : List Tx → Nat → Nat → Nat
  | [], _, acc => acc
  | t :: ts, k, acc => if wds t k = 0 then 0 else wdss ts k (acc + wds t k)
end
mutual
def smT : Tx → Bool
  | .v x => decide (x.length ≤ 1000)
  | .a n ts => decide (n.length ≤ 1000) && smTs ts
def smTs : List Tx → Bool
  | [] => true
  | t :: ts => smT t && smTs ts
end
theorem smTs_mem : ∀ {ts : List Tx}, smTs ts = true → ∀ t ∈ ts, smT t = true
  | [], _, t, h => by cases h
  | u :: ts, e, t, h => by
    rw [smTs, Bool.and_eq_true] at e
    rcases List.mem_cons.mp h with q | q
    · rw [q]; exact e.1
    · exact smTs_mem e.2 t q
theorem lenS_str {h : Hh} {x : List Nat} (hx : x.length ≤ 1000) : lenS h [.str x] = some (.int x.length, h) := if_pos (by rw [sizeLine_eq]; omega)
def okT (t : Tx) : Bool := decide (1 ≤ wds t 6 ∧ wds t 6 ≤ 30)
theorem lk_nm {τ : Sl} {h : Hh} {i : Nat} {d : D} (e : τ[i]? = some (some d)) (hd : ∀ a kvs, d = .ref a → h[a]? ≠ some (.dct false kvs)) : Ir.lk τ h (.nm i) = none := by
  show dctF τ h i = none
  unfold dctF
  rw [e]
  cases d with
  | ref a =>
    dsimp only
    split
    · next kvs q => exact absurd q (hd a kvs rfl)
    · rfl
  | _ => rfl
theorem lk_nmL {τ : Sl} {h : Hh} {i a : Nat} {xs : List D} (e : τ[i]? = some (some (.ref a))) (ha : h[a]? = some (.lst xs)) : Ir.lk τ h (.nm i) = none := lk_nm e fun b kvs q => by cases q; rw [ha]; intro z; cases z
theorem dctAt_none {τ : Sl} {h : Hh} {i : Nat} {d : D} (e : τ[i]? = some (some d)) (hd : ∀ a, d ≠ .ref a) : dctAt τ h i = none := by
  unfold dctAt
  rw [e]
  cases d with
  | ref a => exact absurd rfl (hd a)
  | _ => rfl
theorem dctAt_lst {τ : Sl} {h : Hh} {i a : Nat} {xs : List D} (e : τ[i]? = some (some (.ref a))) (ha : h[a]? = some (.lst xs)) : dctAt τ h i = none := by
  unfold dctAt
  rw [e]
  dsimp only
  rw [ha]
theorem all_map {α : Type} {f : α → Bool} (l : List α) : (l.map f).all id = l.all f := by rw [List.all_map]; rfl
theorem any_map' {α : Type} {f : α → Bool} (l : List α) : (l.map f).any id = l.any f := by rw [List.any_map]; rfl
theorem allS_map {α : Type} {h : Hh} {a : Nat} {l : List α} {f : α → Bool} (e : h[a]? = some (.lst (l.map fun x => .bl (f x)))) : allS h [.ref a] = some (.bl (l.all f), h) := by
  unfold allS
  dsimp only
  rw [asL_at e, Option.bind_some, blsD_map, Option.map_some, all_map]
theorem anyS_map {α : Type} {h : Hh} {a : Nat} {l : List α} {f : α → Bool} (e : h[a]? = some (.lst (l.map fun x => .bl (f x)))) : anyS h [.ref a] = some (.bl (l.any f), h) := by
  unfold anyS
  dsimp only
  rw [asL_at e, Option.bind_some, blsD_map, Option.map_some, any_map']
section
variable {Z : Zi} {B : List Fd} (hU : HasU B)
include hU
theorem isWd_w {j : Nat} {x sg : List Nat} {m : Nat} {h : Hh} {Q : PQ} {Qx : PX} (hm : m ≤ 1000) (hx : x.length ≤ 1000) (k : ∀ h', h <+: h' → Q (.bl (isWd x sg m)) h') : WPc Z B (j + 1) 6 [.str x, .str sg, nD m] h Q Qx := by
  unfold WPc
  rw [hU 6 _ rfl]
  refine ⟨rfl, ?_⟩
  show wSs Z _ Uf.b6.body _ [some (.str x), some (.str sg), some (nD m), none] h
  unfold Uf.b6
  refine wSs_c ?_
  simp only [wS, wE, wEs, wPs, kysOf, D.ky, wO, wT, wI, wG, gAs, gAss, setA, List.foldl_cons, List.foldl_nil, Op2.sem, Bi.sem, okS, okB, En.px, List.getElem?_cons_zero, List.getElem?_cons_succ, List.set_cons_zero, List.set_cons_succ, List.map_cons, List.map_nil, List.cons_append, List.nil_append, List.append_nil, Bool.false_eq_true, if_true, if_false, reduceIte]
  rw [show isiS .str h (.str x) = some (.bl true, h) from rfl]
  simp only [truD_b, Bool.not_true, Bool.false_eq_true, if_false]
  rw [lenS_str hx]
  simp only [leS_i]
  unfold isWd at k
  by_cases c : 1 ≤ x.length
  · have c' : (1 : Int) ≤ (x.length : Int) := by omega
    simp only [decide_eq_true c', if_true]
    rw [show leS h (.int x.length) (nD m) = some (.bl (decide (x.length ≤ m)), h) from by
      show some (D.bl (decide ((x.length : Int) ≤ (m : Int))), h) = _
      rw [show decide ((x.length : Int) ≤ (m : Int)) = decide (x.length ≤ m) from decide_eq_decide.mpr (by omega)]]
    simp only [truD_b]
    by_cases c2 : x.length ≤ m
    · simp only [decide_eq_true c2, Bool.not_true, Bool.false_eq_true, if_false]
      refine wSs_n (wSs_c ?_)
      simp only [wS, wE, wEs, wPs, kysOf, D.ky, wO, wT, wI, wG, gAs, gAss, setA, List.foldl_cons, List.foldl_nil, Op2.sem, Bi.sem, okS, okB, En.px, List.getElem?_cons_zero, List.getElem?_cons_succ, List.set_cons_zero, List.set_cons_succ, List.map_cons, List.map_nil, List.cons_append, List.nil_append, List.append_nil, Bool.false_eq_true, if_true, if_false, reduceIte]
      rw [lk_nm (d := .str x) rfl (fun a kvs q => by cases q)]
      rw [dctAt_none (d := .str x) rfl (fun a q => by cases q)]
      dsimp only [srcD]
      refine wAcc_exm (fun d => match d with
        | .str [c] => .bl (decide (c ∈ sg))
        | _ => .non) (fun _ _ => trivial) (fun d hd q sk h' p hq => ?_) rfl ?_ fun h' p e => ?_
      · obtain ⟨c, _, rfl⟩ := List.mem_map.mp hd
        simp only [wipeA, List.set_cons_succ, List.set_cons_zero, List.getElem?_cons_succ, List.getElem?_cons_zero, if_true]
        exact hq h' (List.prefix_refl _)
      · rw [List.length_map]; omega
      · rw [List.map_map] at e
        rw [allS_map (l := x) (f := fun c => decide (c ∈ sg)) e]
        have := k h' p
        rw [decide_eq_true ⟨c, c2⟩, Bool.true_and] at this
        exact this
    · simp only [decide_eq_false c2, Bool.not_false, if_true]
      refine wSs_c ?_
      simp only [wS, wE, wEs, wPs, kysOf, D.ky, wO, wT, wI, wG, gAs, gAss, setA, List.foldl_cons, List.foldl_nil, Op2.sem, Bi.sem, okS, okB, En.px, List.getElem?_cons_zero, List.getElem?_cons_succ, List.set_cons_zero, List.set_cons_succ, List.map_cons, List.map_nil, List.cons_append, List.nil_append, List.append_nil, Bool.false_eq_true, if_true, if_false, reduceIte]
      have := k h (List.prefix_refl _)
      rw [decide_eq_false (fun q => c2 q.2)] at this
      exact this
  · have c' : ¬ (1 : Int) ≤ (x.length : Int) := by omega
    simp only [decide_eq_false c', Bool.false_eq_true, if_false, truD_b, Bool.not_false, if_true]
    refine wSs_c ?_
    simp only [wS, wE, wEs, wPs, kysOf, D.ky, wO, wT, wI, wG, gAs, gAss, setA, List.foldl_cons, List.foldl_nil, Op2.sem, Bi.sem, okS, okB, En.px, List.getElem?_cons_zero, List.getElem?_cons_succ, List.set_cons_zero, List.set_cons_succ, List.map_cons, List.map_nil, List.cons_append, List.nil_append, List.append_nil, Bool.false_eq_true, if_true, if_false, reduceIte]
    have := k h (List.prefix_refl _)
    rw [decide_eq_false (fun q => c q.1)] at this
    exact this
theorem isNm_w {j : Nat} {x : List Nat} {h : Hh} {Q : PQ} {Qx : PX} (hx : x.length ≤ 1000) (k : ∀ h', h <+: h' → Q (.bl (isNm x)) h') : WPc Z B (j + 2) 2 [.str x] h Q Qx := by
  unfold WPc
  rw [hU 2 _ rfl]
  refine ⟨rfl, ?_⟩
  show wSs Z _ Uf.b2.body _ [some (.str x)] h
  unfold Uf.b2
  refine wSs_c ?_
  simp only [wS, wE, wEs, wPs, kysOf, D.ky, wO, wT, wI, wG, gAs, gAss, setA, List.foldl_cons, List.foldl_nil, Op2.sem, Bi.sem, okS, okB, En.px, List.getElem?_cons_zero, List.getElem?_cons_succ, List.set_cons_zero, List.set_cons_succ, List.map_cons, List.map_nil, List.cons_append, List.nil_append, List.append_nil, Bool.false_eq_true, if_true, if_false, reduceIte]
  exact isWd_w hU (m := 8) (by decide) hx k
theorem isVr_w {j : Nat} {x : List Nat} {h : Hh} {Q : PQ} {Qx : PX} (hx : x.length ≤ 1000) (k : ∀ h', h <+: h' → Q (.bl (isVr x)) h') : WPc Z B (j + 2) 3 [.str x] h Q Qx := by
  unfold WPc
  rw [hU 3 _ rfl]
  refine ⟨rfl, ?_⟩
  show wSs Z _ Uf.b3.body _ [some (.str x)] h
  unfold Uf.b3
  refine wSs_c ?_
  simp only [wS, wE, wEs, wPs, kysOf, D.ky, wO, wT, wI, wG, gAs, gAss, setA, List.foldl_cons, List.foldl_nil, Op2.sem, Bi.sem, okS, okB, En.px, List.getElem?_cons_zero, List.getElem?_cons_succ, List.set_cons_zero, List.set_cons_succ, List.map_cons, List.map_nil, List.cons_append, List.nil_append, List.append_nil, Bool.false_eq_true, if_true, if_false, reduceIte]
  exact isWd_w hU (m := 3) (by decide) hx k
theorem form_w {j : Nat} {n : List Nat} {ts : List Tx} {h : Hh} {Q : PQ} {Qx : PX} (hx : n.length ≤ 1000) (k : ∀ h', h <+: h' → Q (.bl (isNm n && decide (ts.length ≤ 4))) h') : WPc Z B (j + 3) 5 [dT (.a n ts)] h Q Qx := by
  unfold WPc
  rw [hU 5 _ rfl]
  refine ⟨rfl, ?_⟩
  show wSs Z _ Uf.b5.body _ [some (dT (.a n ts)), none, none] h
  rw [dT_a]
  unfold Uf.b5
  refine wSs_c ?_
  simp only [wS, wE, wEs, wPs, kysOf, D.ky, wO, wT, wI, wG, gAs, gAss, setA, List.foldl_cons, List.foldl_nil, Op2.sem, Bi.sem, okS, okB, En.px, List.getElem?_cons_zero, List.getElem?_cons_succ, List.set_cons_zero, List.set_cons_succ, List.map_cons, List.map_nil, List.cons_append, List.nil_append, List.append_nil, Bool.false_eq_true, if_true, if_false, reduceIte]
  rw [show isiS .tup h (.tup [.str n, .tup (ts.map dT)]) = some (.bl true, h) from rfl]
  simp only [truD_b, Bool.not_true, Bool.false_eq_true, if_false, lenS_tup]
  rw [show neS h (.int (([.str n, .tup (ts.map dT)] : List D).length : Nat)) (.int 2) = some (.bl false, h) from rfl]
  simp only [truD_b, Bool.false_eq_true, if_false]
  refine wSs_n (wSs_c ?_)
  simp only [wS, wE, wEs, wPs, kysOf, D.ky, wO, wT, wI, wG, gAs, gAss, setA, List.foldl_cons, List.foldl_nil, Op2.sem, Bi.sem, okS, okB, En.px, List.getElem?_cons_zero, List.getElem?_cons_succ, List.set_cons_zero, List.set_cons_succ, List.map_cons, List.map_nil, List.cons_append, List.nil_append, List.append_nil, Bool.false_eq_true, if_true, if_false, reduceIte]
  refine wSs_c ?_
  simp only [wS, wE, wEs, wPs, kysOf, D.ky, wO, wT, wI, wG, gAs, gAss, setA, List.foldl_cons, List.foldl_nil, Op2.sem, Bi.sem, okS, okB, En.px, List.getElem?_cons_zero, List.getElem?_cons_succ, List.set_cons_zero, List.set_cons_succ, List.map_cons, List.map_nil, List.cons_append, List.nil_append, List.append_nil, Bool.false_eq_true, if_true, if_false, reduceIte]
  refine isNm_w hU hx fun h' p => ?_
  simp only [truD_b]
  have := k h' p
  cases c : isNm n
  · rw [c] at this
    exact this
  · rw [c, Bool.true_and] at this
    rw [show isiS .tup h' (.tup (ts.map dT)) = some (.bl true, h') from rfl]
    simp only [truD_b, if_true, lenS_tup, leS_i, List.length_map]
    rw [show decide ((ts.length : Int) ≤ 4) = decide (ts.length ≤ 4) from decide_eq_decide.mpr (by omega)]
    exact this
theorem words_w : ∀ (t : Tx) {j k : Nat} {h : Hh} {Q : PQ} {Qx : PX}, smT t = true → (∀ h', h <+: h' → Q (nD (wds t k)) h') → WPc Z B (j + k + 4) 7 [dT t, nD k] h Q Qx := by
  apply Tx.ind (P := fun t => ∀ {j k : Nat} {h : Hh} {Q : PQ} {Qx : PX}, smT t = true → (∀ h', h <+: h' → Q (nD (wds t k)) h') → WPc Z B (j + k + 4) 7 [dT t, nD k] h Q Qx)
  · intro x j k h Q Qx hs hk
    unfold WPc
    rw [hU 7 _ rfl]
    refine ⟨rfl, ?_⟩
    show wSs Z _ Uf.b7.body _ [some (dT (.v x)), some (nD k), none, none, none] h
    rw [dT_v]
    unfold Uf.b7
    refine wSs_c ?_
    simp only [wS, wE, wEs, wPs, kysOf, D.ky, wO, wT, wI, wG, gAs, gAss, setA, List.foldl_cons, List.foldl_nil, Op2.sem, Bi.sem, okS, okB, En.px, List.getElem?_cons_zero, List.getElem?_cons_succ, List.set_cons_zero, List.set_cons_succ, List.map_cons, List.map_nil, List.cons_append, List.nil_append, List.append_nil, Bool.false_eq_true, if_true, if_false, reduceIte]
    rw [show eqS h (nD k) (.int 0) = some (.bl (decide (k = 0)), h) from by rw [← nD_beq]; rfl]
    simp only [truD_b]
    cases k with
    | zero =>
      simp only [decide_true, if_true]
      refine wSs_c ?_
      simp only [wS, wE, wEs, wPs, kysOf, D.ky, wO, wT, wI, wG, gAs, gAss, setA, List.foldl_cons, List.foldl_nil, Op2.sem, Bi.sem, okS, okB, En.px, List.getElem?_cons_zero, List.getElem?_cons_succ, List.set_cons_zero, List.set_cons_succ, List.map_cons, List.map_nil, List.cons_append, List.nil_append, List.append_nil, Bool.false_eq_true, if_true, if_false, reduceIte]
      have := hk h (List.prefix_refl _)
      rw [wds] at this
      exact this
    | succ k =>
      simp only [Nat.succ_ne_zero, decide_false, Bool.false_eq_true, if_false]
      refine wSs_n (wSs_c ?_)
      simp only [wS, wE, wEs, wPs, kysOf, D.ky, wO, wT, wI, wG, gAs, gAss, setA, List.foldl_cons, List.foldl_nil, Op2.sem, Bi.sem, okS, okB, En.px, List.getElem?_cons_zero, List.getElem?_cons_succ, List.set_cons_zero, List.set_cons_succ, List.map_cons, List.map_nil, List.cons_append, List.nil_append, List.append_nil, Bool.false_eq_true, if_true, if_false, reduceIte]
      rw [show isiS .str h (.str x) = some (.bl true, h) from rfl]
      simp only [truD_b, if_true]
      refine wSs_c ?_
      simp only [wS, wE, wEs, wPs, kysOf, D.ky, wO, wT, wI, wG, gAs, gAss, setA, List.foldl_cons, List.foldl_nil, Op2.sem, Bi.sem, okS, okB, En.px, List.getElem?_cons_zero, List.getElem?_cons_succ, List.set_cons_zero, List.set_cons_succ, List.map_cons, List.map_nil, List.cons_append, List.nil_append, List.append_nil, Bool.false_eq_true, if_true, if_false, reduceIte]
      refine isVr_w hU (by rw [smT] at hs; simpa using hs) fun h' p => ?_
      have := hk h' p
      rw [wds] at this
      simp only [truD_b]
      cases c : isVr x
      · rw [c] at this; exact this
      · rw [c] at this; exact this
  · intro n ts ih j k h Q Qx hs hk
    rw [smT, Bool.and_eq_true, decide_eq_true_iff] at hs
    unfold WPc
    rw [hU 7 _ rfl]
    refine ⟨rfl, ?_⟩
    show wSs Z _ Uf.b7.body _ [some (dT (.a n ts)), some (nD k), none, none, none] h
    unfold Uf.b7
    refine wSs_c ?_
    simp only [wS, wE, wEs, wPs, kysOf, D.ky, wO, wT, wI, wG, gAs, gAss, setA, List.foldl_cons, List.foldl_nil, Op2.sem, Bi.sem, okS, okB, En.px, List.getElem?_cons_zero, List.getElem?_cons_succ, List.set_cons_zero, List.set_cons_succ, List.map_cons, List.map_nil, List.cons_append, List.nil_append, List.append_nil, Bool.false_eq_true, if_true, if_false, reduceIte]
    rw [show eqS h (nD k) (.int 0) = some (.bl (decide (k = 0)), h) from by rw [← nD_beq]; rfl]
    simp only [truD_b]
    cases k with
    | zero =>
      simp only [decide_true, if_true]
      refine wSs_c ?_
      simp only [wS, wE, wEs, wPs, kysOf, D.ky, wO, wT, wI, wG, gAs, gAss, setA, List.foldl_cons, List.foldl_nil, Op2.sem, Bi.sem, okS, okB, En.px, List.getElem?_cons_zero, List.getElem?_cons_succ, List.set_cons_zero, List.set_cons_succ, List.map_cons, List.map_nil, List.cons_append, List.nil_append, List.append_nil, Bool.false_eq_true, if_true, if_false, reduceIte]
      have := hk h (List.prefix_refl _)
      rw [wds] at this
      exact this
    | succ k =>
      simp only [Nat.succ_ne_zero, decide_false, Bool.false_eq_true, if_false]
      refine wSs_n (wSs_c ?_)
      simp only [wS, wE, wEs, wPs, kysOf, D.ky, wO, wT, wI, wG, gAs, gAss, setA, List.foldl_cons, List.foldl_nil, Op2.sem, Bi.sem, okS, okB, En.px, List.getElem?_cons_zero, List.getElem?_cons_succ, List.set_cons_zero, List.set_cons_succ, List.map_cons, List.map_nil, List.cons_append, List.nil_append, List.append_nil, Bool.false_eq_true, if_true, if_false, reduceIte]
      simp only [isi_dT, isV, truD_b, Bool.false_eq_true, if_false]
      refine wSs_n (wSs_c ?_)
      simp only [wS, wE, wEs, wPs, kysOf, D.ky, wO, wT, wI, wG, gAs, gAss, setA, List.foldl_cons, List.foldl_nil, Op2.sem, Bi.sem, okS, okB, En.px, List.getElem?_cons_zero, List.getElem?_cons_succ, List.set_cons_zero, List.set_cons_succ, List.map_cons, List.map_nil, List.cons_append, List.nil_append, List.append_nil, Bool.false_eq_true, if_true, if_false, reduceIte]
      refine form_w hU (j := j + k + 1) hs.1 fun h1 p1 => ?_
      simp only [truD_b]
      have hk1 := fun h' p => hk h' (p1.trans p)
      rw [wds] at hk1
      cases c : isNm n && decide (ts.length ≤ 4)
      · rw [c] at hk1
        simp only [Bool.not_false, if_true]
        refine wSs_c ?_
        simp only [wS, wE, wEs, wPs, kysOf, D.ky, wO, wT, wI, wG, gAs, gAss, setA, List.foldl_cons, List.foldl_nil, Op2.sem, Bi.sem, okS, okB, En.px, List.getElem?_cons_zero, List.getElem?_cons_succ, List.set_cons_zero, List.set_cons_succ, List.map_cons, List.map_nil, List.cons_append, List.nil_append, List.append_nil, Bool.false_eq_true, if_true, if_false, reduceIte]
        exact hk1 h1 (List.prefix_refl _)
      · rw [c, if_pos rfl] at hk1
        simp only [Bool.not_true, Bool.false_eq_true, if_false]
        refine wSs_n (wSs_c ?_)
        simp only [wS, wE, wEs, wPs, kysOf, D.ky, wO, wT, wI, wG, gAs, gAss, setA, List.foldl_cons, List.foldl_nil, Op2.sem, Bi.sem, okS, okB, En.px, List.getElem?_cons_zero, List.getElem?_cons_succ, List.set_cons_zero, List.set_cons_succ, List.map_cons, List.map_nil, List.cons_append, List.nil_append, List.append_nil, Bool.false_eq_true, if_true, if_false, reduceIte]
        refine wSs_c ?_
        simp only [wS, lk_of']
        simp only [wS, wE, wEs, wPs, kysOf, D.ky, wO, wT, wI, wG, gAs, gAss, setA, List.foldl_cons, List.foldl_nil, Op2.sem, Bi.sem, okS, okB, En.px, List.getElem?_cons_zero, List.getElem?_cons_succ, List.set_cons_zero, List.set_cons_succ, List.map_cons, List.map_nil, List.cons_append, List.nil_append, List.append_nil, Bool.false_eq_true, if_true, if_false, reduceIte]
        simp only [ix1_dT]
        dsimp only [srcD]
        refine wItems_inv (fun i τ h' => h1 <+: h' ∧ ∃ acc v3 v4, τ = [some (dT (.a n ts)), some (nD (k + 1)), some (nD acc), v3, v4] ∧ wdss (ts.drop i) k acc = wdss ts k 1) (fun _ _ _ _ => trivial) ?_ ?_ ⟨List.prefix_refl _, 1, none, none, rfl, rfl⟩
        · rintro i d τ h' kk ed ⟨p, acc, v3, v4, rfl, ew⟩ hkk
          rw [List.getElem?_map] at ed
          obtain ⟨t, et, rfl⟩ := Option.map_eq_some_iff.mp ed
          refine wSs_c ?_
          simp only [wS, wE, wEs, wPs, kysOf, D.ky, wO, wT, wI, wG, gAs, gAss, setA, List.foldl_cons, List.foldl_nil, Op2.sem, Bi.sem, okS, okB, En.px, List.getElem?_cons_zero, List.getElem?_cons_succ, List.set_cons_zero, List.set_cons_succ, List.map_cons, List.map_nil, List.cons_append, List.nil_append, List.append_nil, Bool.false_eq_true, if_true, if_false, reduceIte]
          rw [show subS h' (nD (k + 1)) (.int 1) = some (nD k, h') from by
            show some (D.int (((k + 1 : Nat) : Int) - 1), h') = _
            rw [show (((k + 1 : Nat) : Int) - 1) = (k : Int) from by omega]; rfl]
          refine ih t (List.mem_of_getElem? et) (smTs_mem hs.2 t (List.mem_of_getElem? et)) fun h2 p2 => ?_
          refine wSs_c ?_
          simp only [wS, wE, wEs, wPs, kysOf, D.ky, wO, wT, wI, wG, gAs, gAss, setA, List.foldl_cons, List.foldl_nil, Op2.sem, Bi.sem, okS, okB, En.px, List.getElem?_cons_zero, List.getElem?_cons_succ, List.set_cons_zero, List.set_cons_succ, List.map_cons, List.map_nil, List.cons_append, List.nil_append, List.append_nil, Bool.false_eq_true, if_true, if_false, reduceIte]
          rw [show eqS h2 (nD (wds t k)) (.int 0) = some (.bl (decide (wds t k = 0)), h2) from by rw [← nD_beq]; rfl]
          simp only [truD_b]
          rw [drop_cons et, wdss] at ew
          by_cases c0 : wds t k = 0
          · rw [if_pos c0] at ew
            simp only [c0, decide_true, if_true]
            refine wSs_c ?_
            simp only [wS, wE, wEs, wPs, kysOf, D.ky, wO, wT, wI, wG, gAs, gAss, setA, List.foldl_cons, List.foldl_nil, Op2.sem, Bi.sem, okS, okB, En.px, List.getElem?_cons_zero, List.getElem?_cons_succ, List.set_cons_zero, List.set_cons_succ, List.map_cons, List.map_nil, List.cons_append, List.nil_append, List.append_nil, Bool.false_eq_true, if_true, if_false, reduceIte]
            rw [← ew] at hk1
            exact hk1 h2 (p.trans p2)
          · rw [if_neg c0] at ew
            simp only [c0, decide_false, Bool.false_eq_true, if_false]
            refine wSs_n (wSs_c ?_)
            simp only [wS, wE, wEs, wPs, kysOf, D.ky, wO, wT, wI, wG, gAs, gAss, setA, List.foldl_cons, List.foldl_nil, Op2.sem, Bi.sem, okS, okB, En.px, List.getElem?_cons_zero, List.getElem?_cons_succ, List.set_cons_zero, List.set_cons_succ, List.map_cons, List.map_nil, List.cons_append, List.nil_append, List.append_nil, Bool.false_eq_true, if_true, if_false, reduceIte]
            rw [show addS h2 (nD acc) (nD (wds t k)) = some (nD (acc + wds t k), h2) from by
              show some (D.int ((acc : Int) + (wds t k : Int)), h2) = _
              rw [show (acc : Int) + (wds t k : Int) = ((acc + wds t k : Nat) : Int) from by omega]; rfl]
            exact wSs_n (hkk _ _ ⟨p.trans p2, _, _, _, rfl, ew⟩)
        · rintro τ h' ⟨p, acc, v3, v4, rfl, ew⟩
          rw [List.length_map, List.drop_length, wdss] at ew
          refine wSs_c ?_
          simp only [wS, wE, wEs, wPs, kysOf, D.ky, wO, wT, wI, wG, gAs, gAss, setA, List.foldl_cons, List.foldl_nil, Op2.sem, Bi.sem, okS, okB, En.px, List.getElem?_cons_zero, List.getElem?_cons_succ, List.set_cons_zero, List.set_cons_succ, List.map_cons, List.map_nil, List.cons_append, List.nil_append, List.append_nil, Bool.false_eq_true, if_true, if_false, reduceIte]
          rw [ew]
          exact hk1 h' p
theorem isT_w {j : Nat} {t : Tx} {h : Hh} {Q : PQ} {Qx : PX} (hs : smT t = true) (k : ∀ h', h <+: h' → Q (.bl (okT t)) h') : WPc Z B (j + 11) 4 [dT t] h Q Qx := by
  unfold WPc
  rw [hU 4 _ rfl]
  refine ⟨rfl, ?_⟩
  show wSs Z _ Uf.b4.body _ [some (dT t)] h
  unfold Uf.b4
  refine wSs_c ?_
  simp only [wS, wE, wEs, wPs, kysOf, D.ky, wO, wT, wI, wG, gAs, gAss, setA, List.foldl_cons, List.foldl_nil, Op2.sem, Bi.sem, okS, okB, En.px, List.getElem?_cons_zero, List.getElem?_cons_succ, List.set_cons_zero, List.set_cons_succ, List.map_cons, List.map_nil, List.cons_append, List.nil_append, List.append_nil, Bool.false_eq_true, if_true, if_false, reduceIte]
  refine words_w hU t (k := 6) hs fun h' p => ?_
  rw [show leS h' (.int 1) (nD (wds t 6)) = some (.bl (decide (1 ≤ wds t 6)), h') from by
      show some (D.bl (decide ((1 : Int) ≤ (wds t 6 : Int))), h') = _
      rw [show decide ((1 : Int) ≤ (wds t 6 : Int)) = decide (1 ≤ wds t 6) from decide_eq_decide.mpr (by omega)]]
  have := k h' p
  unfold okT at this
  by_cases c : 1 ≤ wds t 6
  · simp only [decide_eq_true c, if_true]
    rw [show leS h' (nD (wds t 6)) (.int 30) = some (.bl (decide (wds t 6 ≤ 30)), h') from by
      show some (D.bl (decide ((wds t 6 : Int) ≤ 30)), h') = _
      rw [show decide ((wds t 6 : Int) ≤ 30) = decide (wds t 6 ≤ 30) from decide_eq_decide.mpr (by omega)]]
    rw [show decide (1 ≤ wds t 6 ∧ wds t 6 ≤ 30) = decide (wds t 6 ≤ 30) from decide_eq_decide.mpr ⟨fun q => q.2, fun q => ⟨c, q⟩⟩] at this
    exact this
  · simp only [decide_eq_false c, Bool.false_eq_true, if_false]
    rw [decide_eq_false (fun q => c q.1)] at this
    exact this
end
end Mi

set_option Elab.async false
set_option linter.all false
set_option maxRecDepth 100000
set_option maxHeartbeats 4000000
/-! unifying: pairs; names that are apart -/
namespace Mi
open PySem PySem.Spec PyProof.Rows L2 Un
def pD (p : Tx × Tx) : D := .tup [dT p.1, dT p.2]
theorem zipD_map {α : Type} {f : α → D} : ∀ (ts us : List α), zipD (ts.map f) (us.map f) = (ts.zip us).map fun p => .tup [f p.1, f p.2]
  | [], us => by cases us <;> rfl
  | t :: ts, [] => rfl
  | t :: ts, u :: us => by
    have := zipD_map ts us (f := f)
    unfold zipD at this ⊢
    rw [List.map_cons, List.map_cons, List.zipWith_cons_cons, this, List.zip_cons_cons, List.map_cons]
section
variable {h : Hh}
theorem recT_lst {i : Nat} {xs : List D} (e : h[i]? = some (.lst xs)) : recT h (.ref i) = some .lst := by
  unfold recT
  dsimp only
  rw [e]
theorem recT_dct {i : Nat} {lk : Bool} {xs : List (Ky × D)} (e : h[i]? = some (.dct lk xs)) : recT h (.ref i) = some .dct := by
  unfold recT
  dsimp only
  rw [e]
theorem tru_lst {i : Nat} {xs : List D} (e : h[i]? = some (.lst xs)) : truD h (.ref i) = some (!xs.isEmpty) := by
  unfold truD
  dsimp only
  rw [asK_of (asL_at e), asL_at e]; rfl
theorem pop_at {i : Nat} {xs : List D} {x : D} (e : h[i]? = some (.lst (xs ++ [x]))) : mtS .pop .lst h [.ref i] = some (x, h.set i (.lst xs)) := by
  unfold mtS
  dsimp only
  rw [e]
  simp
theorem push_at {i : Nat} {xs : List D} {x : D} (e : h[i]? = some (.lst xs)) (hl : xs.length < 1000000) : mtS .append .lst h [.ref i, x] = some (.non, h.set i (.lst (xs ++ [x]))) := by
  unfold mtS
  dsimp only
  rw [e]
  exact if_pos (by rw [sizeLine_eq]; omega)
theorem extend_at {i j : Nat} {xs ys : List D} (e : h[i]? = some (.lst xs)) (e2 : h[j]? = some (.lst ys)) (hl : xs.length + ys.length < 1000000) : mtS .extend .lst h [.ref i, .ref j] = some (.non, h.set i (.lst (xs ++ ys))) := by
  unfold mtS
  dsimp only
  rw [e, e2]
  exact if_pos (by rw [sizeLine_eq]; omega)
theorem lzip_tup {as bs : List D} (hl : as.length = bs.length) : lzipS h [.tup as, .tup bs] = some (.ref h.length, h ++ [.lst (zipD as bs)]) := if_pos hl
theorem lzip_ref {i j : Nat} {as bs : List D} (e1 : h[i]? = some (.lst as)) (e2 : h[j]? = some (.lst bs)) (hl : as.length = bs.length) : lzipS h [.ref i, .ref j] = some (.ref h.length, h ++ [.lst (zipD as bs)]) := by
  unfold lzipS
  dsimp only
  rw [asL_at e1, Option.bind_some, asL_at e2, Option.bind_some]
  exact if_pos hl
theorem isi_lst {i : Nat} {xs : List D} (e : h[i]? = some (.lst xs)) : isiS .lst h (.ref i) = some (.bl true, h) := by
  unfold isiS
  rw [if_neg (by decide)]
  unfold tyD
  dsimp only
  rw [e]; rfl
end
theorem snoc_or {α : Type} (l : List α) : l = [] ∨ ∃ l' x, l = l' ++ [x] := by
  rcases List.eq_nil_or_concat l with e | ⟨l', x, e⟩
  · exact .inl e
  · exact .inr ⟨l', x, by rw [e, List.concat_eq_append]⟩
/-- what is left to look at -/
def wt (l : List (Tx × Tx)) : Nat := (l.map fun p => p.1.size).sum
theorem wt_len : ∀ l : List (Tx × Tx), l.length ≤ wt l
  | [] => Nat.le_refl _
  | p :: l => by
    have := wt_len l
    have := size_pos p.1
    unfold wt at *
    rw [List.map_cons, List.sum_cons, List.length_cons]; omega
theorem wt_app {l m : List (Tx × Tx)} : wt (l ++ m) = wt l + wt m := by unfold wt; rw [List.map_append, List.sum_append]
theorem wt_zip : ∀ (ts us : List Tx), ts.length = us.length → wt (ts.zip us) = (ts.map Tx.size).sum
  | [], _, _ => by simp [wt]
  | t :: ts, [], e => by cases e
  | t :: ts, u :: us, e => by
    have := wt_zip ts us (by simpa using e)
    unfold wt at this ⊢
    rw [List.zip_cons_cons, List.map_cons, List.sum_cons, this, List.map_cons, List.sum_cons]
section
variable {Z : Zi} {B : List Fd} (hU : HasU B)
include hU
theorem isPair_w {j : Nat} {p : Tx × Tx} {h : Hh} {Q : PQ} {Qx : PX} (h1 : smT p.1 = true) (h2 : smT p.2 = true) (k : ∀ h', h <+: h' → Q (.bl (okT p.1 && okT p.2)) h') : WPc Z B (j + 12) 11 [pD p] h Q Qx := by
  unfold WPc
  rw [hU 11 _ rfl]
  refine ⟨rfl, ?_⟩
  show wSs Z _ Uf.b11.body _ [some (pD p), none] h
  unfold Uf.b11 pD
  refine wSs_c ?_
  simp only [wS, wE, wEs, wPs, kysOf, D.ky, wO, wT, wI, wG, gAs, gAss, setA, List.foldl_cons, List.foldl_nil, Op2.sem, Bi.sem, okS, okB, En.px, List.getElem?_cons_zero, List.getElem?_cons_succ, List.set_cons_zero, List.set_cons_succ, List.map_cons, List.map_nil, List.cons_append, List.nil_append, List.append_nil, Bool.false_eq_true, if_true, if_false, reduceIte]
  rw [show isiS .tup h (.tup [dT p.1, dT p.2]) = some (.bl true, h) from rfl]
  simp only [truD_b, if_true, lenS_tup]
  rw [show eqS h (.int (([dT p.1, dT p.2] : List D).length : Nat)) (.int 2) = some (.bl true, h) from rfl]
  simp only [truD_b, if_true]
  rw [lk_nm (d := .tup [dT p.1, dT p.2]) rfl (fun a kvs q => by cases q)]
  rw [dctAt_none (d := .tup [dT p.1, dT p.2]) rfl (fun a q => by cases q)]
  dsimp only [srcD]
  refine wAcc_m (l := [p.1, p.2]) dT (fun t => .bl (okT t)) (fun _ _ => trivial) (fun t ht q sk h' pp hq => ?_) (by simp) fun h' pp e => ?_
  · simp only [wipeA, List.set_cons_succ, List.set_cons_zero, List.getElem?_cons_succ, List.getElem?_cons_zero, if_true]
    have hs : smT t = true := by
      rcases List.mem_cons.mp ht with rfl | ht
      · exact h1
      · rw [List.mem_singleton.mp ht]; exact h2
    exact isT_w hU hs hq
  · rw [allS_map e]
    have := k h' pp
    simpa using this
def okP (P : List (Tx × Tx)) : Bool := decide (P.length ≤ 10) && P.all fun p => okT p.1 && okT p.2
theorem arePairs_w {j a : Nat} {P : List (Tx × Tx)} {h : Hh} {Q : PQ} {Qx : PX} (e : h[a]? = some (.lst (P.map pD))) (hs : ∀ p ∈ P, smT p.1 = true ∧ smT p.2 = true) (k : ∀ h', h <+: h' → Q (.bl (okP P)) h') : WPc Z B (j + 13) 10 [.ref a] h Q Qx := by
  unfold WPc
  rw [hU 10 _ rfl]
  refine ⟨rfl, ?_⟩
  show wSs Z _ Uf.b10.body _ [some (.ref a), none] h
  unfold Uf.b10
  refine wSs_c ?_
  simp only [wS, wE, wEs, wPs, kysOf, D.ky, wO, wT, wI, wG, gAs, gAss, setA, List.foldl_cons, List.foldl_nil, Op2.sem, Bi.sem, okS, okB, En.px, List.getElem?_cons_zero, List.getElem?_cons_succ, List.set_cons_zero, List.set_cons_succ, List.map_cons, List.map_nil, List.cons_append, List.nil_append, List.append_nil, Bool.false_eq_true, if_true, if_false, reduceIte]
  simp only [isi_lst e, truD_b, Bool.not_true, Bool.false_eq_true, if_false, lenS_ref (asL_at e), gtS_i, List.length_map]
  unfold okP at k
  by_cases c : P.length ≤ 10
  · rw [decide_eq_false (show ¬ (10 : Int) < (P.length : Int) by omega)]
    simp only [Bool.false_eq_true, if_false]
    refine wSs_n (wSs_c ?_)
    simp only [wS, wE, wEs, wPs, kysOf, D.ky, wO, wT, wI, wG, gAs, gAss, setA, List.foldl_cons, List.foldl_nil, Op2.sem, Bi.sem, okS, okB, En.px, List.getElem?_cons_zero, List.getElem?_cons_succ, List.set_cons_zero, List.set_cons_succ, List.map_cons, List.map_nil, List.cons_append, List.nil_append, List.append_nil, Bool.false_eq_true, if_true, if_false, reduceIte]
    rw [lk_nmL rfl e, dctAt_lst rfl e]
    dsimp only [srcD]
    rw [asL_at e]
    refine wAcc_m pD (fun p => .bl (okT p.1 && okT p.2)) (fun h' p => asL_at (pre_at p e)) (fun p hp q sk h' pp hq => ?_) (by omega) fun h' pp e2 => ?_
    · simp only [wipeA, List.set_cons_succ, List.set_cons_zero, List.getElem?_cons_succ, List.getElem?_cons_zero, if_true]
      exact isPair_w hU (hs p hp).1 (hs p hp).2 hq
    · rw [allS_map e2]
      have := k h' pp
      rw [decide_eq_true c, Bool.true_and] at this
      exact this
  · rw [decide_eq_true (show (10 : Int) < (P.length : Int) by omega)]
    simp only [if_true]
    refine wSs_c ?_
    simp only [wS, wE, wEs, wPs, kysOf, D.ky, wO, wT, wI, wG, gAs, gAss, setA, List.foldl_cons, List.foldl_nil, Op2.sem, Bi.sem, okS, okB, En.px, List.getElem?_cons_zero, List.getElem?_cons_succ, List.set_cons_zero, List.set_cons_succ, List.map_cons, List.map_nil, List.cons_append, List.nil_append, List.append_nil, Bool.false_eq_true, if_true, if_false, reduceIte]
    have := k h (List.prefix_refl _)
    rw [decide_eq_false c] at this
    exact this
theorem apart_w {j : Nat} {t u : Tx} {h : Hh} {Q : PQ} {Qx : PX} (ht : t.size ≤ 1000) (k : ∀ r h', h <+: h' → (r = true → ∀ s, t.sub s ≠ u.sub s) → Q (.bl r) h') : WPc Z B (j + 2) 12 [dT t, dT u] h Q Qx := by
  unfold WPc
  rw [hU 12 _ rfl]
  refine ⟨rfl, ?_⟩
  show wSs Z _ Uf.b12.body _ [some (dT t), some (dT u), none, none, none] h
  unfold Uf.b12
  refine wSs_c ?_
  simp only [wS, wE, wEs, wPs, kysOf, D.ky, wO, wT, wI, wG, gAs, gAss, setA, List.foldl_cons, List.foldl_nil, Op2.sem, Bi.sem, okS, okB, En.px, List.getElem?_cons_zero, List.getElem?_cons_succ, List.set_cons_zero, List.set_cons_succ, List.map_cons, List.map_nil, List.cons_append, List.nil_append, List.append_nil, Bool.false_eq_true, if_true, if_false, reduceIte]
  refine ⟨by rw [sizeLine_eq]; simp, by rw [sizeLine_eq]; simp, ?_⟩
  refine wSs_c ?_
  simp only [wS]
  refine ⟨fun m τ h' => ∃ l v3 v4, h <+: h' ∧ h'[h.length]? = some (.lst (l.map pD)) ∧ wt l = m ∧ m ≤ 1000 ∧ τ = [some (dT t), some (dT u), some (.ref h.length), v3, v4] ∧ ∀ s, t.sub s = u.sub s → ∀ p ∈ l, p.1.sub s = p.2.sub s, ⟨_, [(t, u)], none, none, pre_snoc (List.prefix_refl _), new_at, rfl, by simpa [wt] using ht, rfl, fun s e p hp => by rw [List.mem_singleton.mp hp]; exact e⟩, ?_⟩
  rintro m τ h' ⟨l, v3, v4, p0, e0, hm, hm2, rfl, hsub⟩
  simp only [wS, wE, wEs, wPs, kysOf, D.ky, wO, wT, wI, wG, gAs, gAss, setA, List.foldl_cons, List.foldl_nil, Op2.sem, Bi.sem, okS, okB, En.px, List.getElem?_cons_zero, List.getElem?_cons_succ, List.set_cons_zero, List.set_cons_succ, List.map_cons, List.map_nil, List.cons_append, List.nil_append, List.append_nil, Bool.false_eq_true, if_true, if_false, reduceIte]
  rw [tru_lst e0]
  dsimp only
  rcases snoc_or l with rfl | ⟨l, p, rfl⟩
  · simp only [List.map_nil, List.isEmpty_nil, Bool.not_true, Bool.false_eq_true, if_false]
    refine wSs_c ?_
    simp only [wS, wE, wEs, wPs, kysOf, D.ky, wO, wT, wI, wG, gAs, gAss, setA, List.foldl_cons, List.foldl_nil, Op2.sem, Bi.sem, okS, okB, En.px, List.getElem?_cons_zero, List.getElem?_cons_succ, List.set_cons_zero, List.set_cons_succ, List.map_cons, List.map_nil, List.cons_append, List.nil_append, List.append_nil, Bool.false_eq_true, if_true, if_false, reduceIte]
    exact k false h' p0 (fun q => by cases q)
  · rw [if_pos (by simp)]
    rw [List.map_append, List.map_cons, List.map_nil] at e0
    have hm3 : wt l + p.1.size = m := by rw [← hm, wt_app]; simp [wt]
    refine wSs_c ?_
    simp only [wS, wE, wEs, wPs, kysOf, D.ky, wO, wT, wI, Op2.sem, Bi.sem, okS, okB, En.px, List.getElem?_cons_zero, List.getElem?_cons_succ, List.set_cons_zero, List.set_cons_succ, List.map_cons, List.map_nil, List.cons_append, List.nil_append, List.append_nil, Bool.false_eq_true, if_true, if_false, reduceIte]
    rw [recT_lst e0]
    refine ⟨rfl, ?_⟩
    rw [pop_at e0]
    refine wG_2 ?_
    have p1 := pre_set (o := .lst (l.map pD)) p0 (Nat.le_refl _)
    have e1 := set_self (o := .lst (l.map pD)) e0
    have hsl : ∀ s, t.sub s = u.sub s → ∀ p ∈ l, p.1.sub s = p.2.sub s := fun s e q hq => hsub s e q (List.mem_append_left _ hq)
    have hsp : ∀ s, t.sub s = u.sub s → p.1.sub s = p.2.sub s := fun s e => hsub s e p (by simp)
    have sp := size_pos p.1
    simp only [List.set_cons_succ, List.set_cons_zero]
    refine wSs_c ?_
    simp only [wS, wE, wEs, wPs, kysOf, D.ky, wO, wT, wI, wG, gAs, gAss, setA, List.foldl_cons, List.foldl_nil, Op2.sem, Bi.sem, okS, okB, En.px, List.getElem?_cons_zero, List.getElem?_cons_succ, List.set_cons_zero, List.set_cons_succ, List.map_cons, List.map_nil, List.cons_append, List.nil_append, List.append_nil, Bool.false_eq_true, if_true, if_false, reduceIte]
    simp only [isi_dT, truD_b]
    cases h3 : p.1 with
    | v x =>
      simp only [isV, if_true]
      refine wSs_c ?_
      simp only [wS, wE, wEs, wPs, kysOf, D.ky, wO, wT, wI, wG, gAs, gAss, setA, List.foldl_cons, List.foldl_nil, Op2.sem, Bi.sem, okS, okB, En.px, List.getElem?_cons_zero, List.getElem?_cons_succ, List.set_cons_zero, List.set_cons_succ, List.map_cons, List.map_nil, List.cons_append, List.nil_append, List.append_nil, Bool.false_eq_true, if_true, if_false, reduceIte]
      exact ⟨_, by omega, l, _, _, p1, e1, rfl, by omega, rfl, hsl⟩
    | a n ts =>
      simp only [isV, Bool.false_eq_true, if_false, isi_dT, truD_b]
      cases h4 : p.2 with
      | v x =>
        simp only [isV, if_true]
        refine wSs_c ?_
        simp only [wS, wE, wEs, wPs, kysOf, D.ky, wO, wT, wI, wG, gAs, gAss, setA, List.foldl_cons, List.foldl_nil, Op2.sem, Bi.sem, okS, okB, En.px, List.getElem?_cons_zero, List.getElem?_cons_succ, List.set_cons_zero, List.set_cons_succ, List.map_cons, List.map_nil, List.cons_append, List.nil_append, List.append_nil, Bool.false_eq_true, if_true, if_false, reduceIte]
        exact ⟨_, by omega, l, _, _, p1, e1, rfl, by omega, rfl, hsl⟩
      | a m' us =>
        simp only [isV, Bool.false_eq_true, if_false]
        refine wSs_n (wSs_c ?_)
        simp only [wS, wE, wEs, wPs, kysOf, D.ky, wO, wT, wI, wG, gAs, gAss, setA, List.foldl_cons, List.foldl_nil, Op2.sem, Bi.sem, okS, okB, En.px, List.getElem?_cons_zero, List.getElem?_cons_succ, List.set_cons_zero, List.set_cons_succ, List.map_cons, List.map_nil, List.cons_append, List.nil_append, List.append_nil, Bool.false_eq_true, if_true, if_false, reduceIte]
        refine canOne_w hU ?_
        simp only [truD_b]
        by_cases c : n = m' ∧ ts.length = us.length
        · rw [decide_eq_true c]
          simp only [Bool.not_true, Bool.false_eq_true, if_false]
          refine wSs_n (wSs_c ?_)
          simp only [wS, wE, wEs, wPs, kysOf, D.ky, wO, wT, wI, wG, gAs, gAss, setA, List.foldl_cons, List.foldl_nil, Op2.sem, Bi.sem, okS, okB, En.px, List.getElem?_cons_zero, List.getElem?_cons_succ, List.set_cons_zero, List.set_cons_succ, List.map_cons, List.map_nil, List.cons_append, List.nil_append, List.append_nil, Bool.false_eq_true, if_true, if_false, reduceIte]
          rw [recT_lst e1]
          refine ⟨rfl, ?_⟩
          simp only [ix1_dT]
          rw [lzip_tup (by rw [List.length_map, List.length_map]; exact c.2), zipD_map]
          dsimp only
          have lz : (ts.zip us).length ≤ wt (ts.zip us) := wt_len _
          have ll := wt_len l
          have ez := wt_zip ts us c.2
          have es : p.1.size = 1 + (ts.map Tx.size).sum := by rw [h3, size_a]
          rw [extend_at (pre_at (pre_snoc (List.prefix_refl _)) e1) new_at (by simp only [List.length_map]; omega)]
          dsimp only
          refine wSs_n ⟨wt (l ++ ts.zip us), by rw [wt_app]; omega, l ++ ts.zip us, _, _, pre_set (p1.trans (pre_snoc (List.prefix_refl _))) (Nat.le_refl _), ?_, rfl, by rw [wt_app]; omega, rfl, ?_⟩
          · rw [List.map_append]
            exact set_self (pre_at (pre_snoc (List.prefix_refl _)) e1)
          · intro s e q hq
            rcases List.mem_append.mp hq with hq | hq
            · exact hsl s e q hq
            · have := hsp s e
              rw [h3, h4, sub_a, sub_a] at this
              injection this with _ e5
              obtain ⟨i, hi⟩ := List.getElem?_of_mem hq
              rw [List.getElem?_zip_eq_some] at hi
              have e6 := congrArg (fun l => l[i]?) e5
              rw [List.getElem?_map, List.getElem?_map, hi.1, hi.2] at e6
              exact Option.some.inj e6
        · rw [decide_eq_false c]
          simp only [Bool.not_false, if_true]
          refine wSs_c ?_
          simp only [wS, wE, wEs, wPs, kysOf, D.ky, wO, wT, wI, wG, gAs, gAss, setA, List.foldl_cons, List.foldl_nil, Op2.sem, Bi.sem, okS, okB, En.px, List.getElem?_cons_zero, List.getElem?_cons_succ, List.set_cons_zero, List.set_cons_succ, List.map_cons, List.map_nil, List.cons_append, List.nil_append, List.append_nil, Bool.false_eq_true, if_true, if_false, reduceIte]
          refine k true _ p1 fun _ s e => ?_
          have := hsp s e
          rw [h3, h4, sub_a, sub_a] at this
          injection this with e4 e5
          have := congrArg List.length e5
          rw [List.length_map, List.length_map] at this
          exact c ⟨e4, this⟩
end
end Mi

set_option Elab.async false
set_option linter.all false
set_option maxRecDepth 100000
set_option maxHeartbeats 4000000
/-! unifying: the parts of the terms are numbered -/
namespace Mi
open PySem PySem.Spec PyProof.Rows L2 Un
/-! ### dicts -/
theorem getKd_rep : ∀ {l : List (Ky × D)} {k k' : Ky} {e : D}, getKd (repKd l k e) k' = if k = k' then (getKd l k).map fun _ => e else getKd l k'
  | [], k, k', e => by
    show getKd [] k' = _
    split <;> rfl
  | (j, d) :: l, k, k', e => by
    unfold repKd
    by_cases c : j = k
    · rw [if_pos c]
      subst c
      by_cases c2 : j = k'
      · subst c2; simp only [getKd, if_true, Option.map_some]
      · simp only [getKd, if_neg c2]
        rw [getKd_rep, if_neg c2]
    · rw [if_neg c]
      by_cases c2 : k = k'
      · subst c2
        simp only [getKd, if_neg c, if_true]
        rw [getKd_rep, if_pos rfl]
      · simp only [getKd, if_neg c2]
        rw [getKd_rep, if_neg c2]
theorem getKd_app : ∀ {l m : List (Ky × D)} {k : Ky}, getKd (l ++ m) k = (getKd l k).or (getKd m k)
  | [], m, k => by simp [getKd]
  | (j, d) :: l, m, k => by
    rw [List.cons_append]
    simp only [getKd]
    split
    · rfl
    · exact getKd_app
theorem getKd_put {l : List (Ky × D)} {k k' : Ky} {e : D} : getKd (putKd l k e) k' = if k = k' then some e else getKd l k' := by
  unfold putKd
  cases c : getKd l k with
  | some d =>
    rw [if_pos (by rfl), getKd_rep, c]; rfl
  | none =>
    rw [if_neg (by simp), getKd_app]
    by_cases c2 : k = k'
    · subst c2; rw [c]; simp [getKd]
    · rw [if_neg c2]; simp [getKd, c2]
theorem repKd_len : ∀ {l : List (Ky × D)} {k : Ky} {e : D}, (repKd l k e).length = l.length
  | [], _, _ => rfl
  | (j, d) :: l, k, e => by
    unfold repKd
    rw [List.length_cons, repKd_len, List.length_cons]
theorem putKd_has {l : List (Ky × D)} {k : Ky} {e d : D} (c : getKd l k = some d) : (putKd l k e).length = l.length := by
  unfold putKd
  rw [c, if_pos (by rfl), repKd_len]
/-! ### terms as they should be -/
mutual
def wfT : Tx → Bool
  | .v x => isVr x
  | .a n ts => isNm n && (decide (ts.length ≤ 4) && wfTs ts)
def wfTs : List Tx → Bool
  | [] => true
  | t :: ts => wfT t && wfTs ts
end
theorem wfTs_mem : ∀ {ts : List Tx}, wfTs ts = true → ∀ t ∈ ts, wfT t = true
  | [], _, t, h => by cases h
  | u :: ts, e, t, h => by
    rw [wfTs, Bool.and_eq_true] at e
    rcases List.mem_cons.mp h with q | q
    · rw [q]; exact e.1
    · exact wfTs_mem e.2 t q
theorem wfT_a {n : List Nat} {ts : List Tx} (h : wfT (.a n ts) = true) : isNm n = true ∧ ∀ t ∈ ts, wfT t = true := by
  rw [wfT, Bool.and_eq_true, Bool.and_eq_true] at h
  exact ⟨h.1, wfTs_mem h.2.2⟩
theorem wd_apart {x : List Nat} (h : isVr x = true) : isNm x = false := by
  cases x with
  | nil => rfl
  | cons c x =>
    unfold isVr isNm isWd at *
    rw [Bool.and_eq_true, List.all_cons, Bool.and_eq_true] at h
    have h2 : c ∈ vrSg := by simpa using h.2.1
    have : ∀ c ∈ vrSg, c ∉ nmSg := by decide
    rw [List.all_cons, decide_eq_false (this c h2)]
    simp
def subT : Tx → List Tx
  | .v _ => []
  | .a _ ts => ts
theorem wfT_4 {t : Tx} (h : wfT t = true) : (subT t).length ≤ 4 := by
  cases t with
  | v x => exact Nat.zero_le _
  | a n ts =>
    rw [wfT, Bool.and_eq_true, Bool.and_eq_true, decide_eq_true_iff] at h
    exact h.2.1
theorem word_inj {t u : Tx} {w : List Nat} (ht : wfT t = true) (hu : wfT u = true) (et : wordT t = some w) (eu : wordT u = some w) : t = u := by
  cases t with
  | v x =>
    cases et
    cases u with
    | v y => cases eu; rfl
    | a m us =>
      cases us with
      | nil =>
        cases eu
        rw [wfT] at ht
        have := (wfT_a hu).1
        rw [wd_apart ht] at this; cases this
      | cons _ _ => cases eu
  | a n ts =>
    cases ts with
    | cons _ _ => cases et
    | nil =>
      cases et
      cases u with
      | v y =>
        cases eu
        rw [wfT] at hu
        have := (wfT_a ht).1
        rw [wd_apart hu] at this; cases this
      | a m us =>
        cases us with
        | nil => cases eu; rfl
        | cons _ _ => cases eu
theorem wf_sub {t u : Tx} (h : wfT t = true) (hu : u ∈ subT t) : wfT u = true := by
  cases t with
  | v x => cases hu
  | a n ts => exact (wfT_a h).2 u hu
theorem vars_sub {t u : Tx} (hu : u ∈ subT t) {x : Wd} (hx : x ∈ u.vars) : x ∈ t.vars := by
  cases t with
  | v x => cases hu
  | a n ts => exact vars_in hu hx
theorem size_sub1 (t : Tx) : t.size = 1 + ((subT t).map Tx.size).sum := by
  cases t with
  | v x => rw [size_v]; rfl
  | a n ts => rw [size_a]; rfl
def szs (ts : List Tx) : Nat := (ts.map Tx.size).sum
theorem szs_app {l m : List Tx} : szs (l ++ m) = szs l + szs m := by unfold szs; rw [List.map_append, List.sum_append]
theorem szs_cons {t : Tx} {l : List Tx} : szs (t :: l) = t.size + szs l := by unfold szs; rw [List.map_cons, List.sum_cons]
theorem szs_len : ∀ l : List Tx, l.length ≤ szs l
  | [] => Nat.zero_le _
  | t :: l => by
    have := szs_len l
    have := size_pos t
    rw [szs_cons, List.length_cons]; omega
/-- how it stands while the parts are numbered -/
structure NumI (h h' : Hh) (ts ps : List Tx) (ins : List (Nat × List Nat)) (kn : List (Ky × D)) : Prop where
  pre : h <+: h'
  cp : h'[h.length]? = some (O.lst (ps.map dT))
  cq : h'[h.length + 1]? = some (O.lst (ins.map fun (p : Nat × List Nat) => D.ref p.1))
  cd : h'[h.length + 2]? = some (O.dct false kn)
  tsp : ts <+: ps
  wf : ∀ t ∈ ps, wfT t = true ∧ ∀ x ∈ t.vars, ∃ u ∈ ts, x ∈ u.vars
  kn1 : ∀ w d, getKd kn (.s w) = some d → ∃ i t, d = nD i ∧ ps[i]? = some t ∧ wordT t = some w
  knl : kn.length ≤ ps.length
  inn : ∀ (i : Nat) (p : Nat × List Nat), ins[i]? = some p → h.length + 3 ≤ p.1 ∧ h'[p.1]? = some (O.lst (p.2.map nD)) ∧ ∃ t, ps[i]? = some t ∧ p.2.map (fun j => ps[j]?) = (subT t).map some
variable {h h' h'' : Hh} {ts ps : List Tx} {ins : List (Nat × List Nat)} {kn : List (Ky × D)}
theorem NumI.len (I : NumI h h' ts ps ins kn) : ins.length ≤ ps.length := by
  rcases Nat.lt_or_ge ps.length ins.length with c | c
  · obtain ⟨_, _, t, e, _⟩ := I.inn _ _ (List.getElem?_eq_getElem c)
    have := (List.getElem?_eq_some_iff.mp e).1
    omega
  · exact c
theorem NumI.ext (I : NumI h h' ts ps ins kn) (p : h' <+: h'') : NumI h h'' ts ps ins kn :=
  ⟨I.pre.trans p, pre_at p I.cp, pre_at p I.cq, pre_at p I.cd, I.tsp, I.wf, I.kn1, I.knl, fun i q e => by
    obtain ⟨a, b, c⟩ := I.inn i q e
    exact ⟨a, pre_at p b, c⟩⟩
/-- another cell is written -/
theorem NumI.oth (I : NumI h h' ts ps ins kn) {c : Nat} {o : O} (hc : h.length + 3 ≤ c) (hn : ∀ p ∈ ins, p.1 ≠ c) : NumI h (h'.set c o) ts ps ins kn :=
  ⟨pre_set I.pre (by omega), set_at I.cp (by omega), set_at I.cq (by omega), set_at I.cd (by omega), I.tsp, I.wf, I.kn1, I.knl, fun i q e => by
    obtain ⟨a, b, d⟩ := I.inn i q e
    exact ⟨a, set_at b (hn q (List.mem_of_getElem? e)).symm, d⟩⟩
theorem getm_mono {ps : List Tx} {u : Tx} {ns : List Nat} {l : List Tx} (e : ns.map (fun j => ps[j]?) = l.map some) : ns.map (fun j => (ps ++ [u])[j]?) = l.map some := by
  rw [← e]
  refine List.map_congr_left fun j hj => ?_
  have : ps[j]? ∈ l.map some := by rw [← e]; exact List.mem_map_of_mem hj
  obtain ⟨t, _, et⟩ := List.mem_map.mp this
  rw [List.getElem?_append_left (List.getElem?_eq_some_iff.mp et.symm).1]
/-- one more part -/
theorem NumI.push (I : NumI h h' ts ps ins kn) {u : Tx} (hw : wfT u = true) (hv : ∀ x ∈ u.vars, ∃ t ∈ ts, x ∈ t.vars) : NumI h (h'.set h.length (.lst ((ps ++ [u]).map dT))) ts (ps ++ [u]) ins kn where
  pre := pre_set I.pre (Nat.le_refl _)
  cp := set_self I.cp
  cq := set_at I.cq (by omega)
  cd := set_at I.cd (by omega)
  tsp := I.tsp.trans ⟨[u], rfl⟩
  wf := fun t ht => by
    rcases List.mem_append.mp ht with q | q
    · exact I.wf t q
    · rw [List.mem_singleton.mp q]; exact ⟨hw, hv⟩
  kn1 := fun w d e => by
    obtain ⟨i, t, a, b, c⟩ := I.kn1 w d e
    exact ⟨i, t, a, by rw [List.getElem?_append_left (List.getElem?_eq_some_iff.mp b).1]; exact b, c⟩
  knl := by have := I.knl; rw [List.length_append]; omega
  inn := fun i p e => by
    obtain ⟨a, b, t, c, d⟩ := I.inn i p e
    exact ⟨a, set_at b (by omega), t, by rw [List.getElem?_append_left (List.getElem?_eq_some_iff.mp c).1]; exact c, getm_mono d⟩
/-- a word is known -/
theorem NumI.know (I : NumI h h' ts ps ins kn) {w : List Nat} {i : Nat} {t : Tx} (e : ps[i]? = some t) (ew : wordT t = some w) (hl : (putKd kn (.s w) (nD i)).length ≤ ps.length) : NumI h (h'.set (h.length + 2) (.dct false (putKd kn (.s w) (nD i)))) ts ps ins (putKd kn (.s w) (nD i)) where
  pre := pre_set I.pre (by omega)
  cp := set_at I.cp (by omega)
  cq := set_at I.cq (by omega)
  cd := set_self I.cd
  tsp := I.tsp
  wf := I.wf
  kn1 := fun w' d q => by
    rw [getKd_put] at q
    by_cases c : Ky.s w = Ky.s w'
    · rw [if_pos c] at q
      cases q; cases c
      exact ⟨i, t, rfl, e, ew⟩
    · rw [if_neg c] at q
      exact I.kn1 w' d q
  knl := hl
  inn := fun j p q => by
    obtain ⟨a, b, c⟩ := I.inn j p q
    exact ⟨a, set_at b (by omega), c⟩
/-- the next part is done -/
theorem NumI.done (I : NumI h h' ts ps ins kn) {c : Nat} {ns : List Nat} {t : Tx} (hc : h.length + 3 ≤ c) (ec : h'[c]? = some (.lst (ns.map nD))) (et : ps[ins.length]? = some t) (en : ns.map (fun j => ps[j]?) = (subT t).map some) :
    NumI h (h'.set (h.length + 1) (.lst ((ins ++ [(c, ns)]).map fun (p : Nat × List Nat) => D.ref p.1))) ts ps (ins ++ [(c, ns)]) kn where
  pre := pre_set I.pre (by omega)
  cp := set_at I.cp (by omega)
  cq := set_self I.cq
  cd := set_at I.cd (by omega)
  tsp := I.tsp
  wf := I.wf
  kn1 := I.kn1
  knl := I.knl
  inn := fun i p e => by
    by_cases hi : i < ins.length
    · rw [List.getElem?_append_left hi] at e
      obtain ⟨a, b, d⟩ := I.inn i p e
      exact ⟨a, set_at b (by omega), d⟩
    · rw [List.getElem?_append_right (by omega)] at e
      have hi2 : i - ins.length = 0 := by
        have := (List.getElem?_eq_some_iff.mp e).1
        simp only [List.length_cons, List.length_nil] at this
        omega
      rw [hi2] at e
      cases e
      exact ⟨hc, set_at ec (by show h.length + 1 ≠ c; omega), t, by rw [show i = ins.length from by omega]; exact et, en⟩
end Mi

set_option Elab.async false
set_option linter.all false
set_option maxRecDepth 100000
set_option maxHeartbeats 4000000
/-! unifying: _numbered -/
namespace Mi
open PySem PySem.Spec PyProof.Rows L2 Un
theorem get_at {h : Hh} {i : Nat} {lk : Bool} {kn : List (Ky × D)} (e : h[i]? = some (.dct lk kn)) (o : Option (List Nat)) (x : D) : mtS .get .dct h [.ref i, wD o, x] = some ((match o with
    | none => x
    | some w => (getKd kn (.s w)).getD x), h) := by
  have ek : asK h (.ref i) = some kn := by simp only [asK, e]
  unfold mtS
  dsimp only
  rw [ek]
  cases o <;> rfl
def in13 : Ss := (.cons (.asg (.n 8) (.call 14 (.cons (.v 7) .nil)))
  (.cons (.asg (.n 9) (.mt .get (.v 3) (.cons (.v 8) (.cons (.bi .len (.cons (.v 1) .nil)) .nil))))
  (.cons (.ite (.op .eq (.v 9) (.bi .len (.cons (.v 1) .nil))) (.cons (.ex (.mt .append (.v 1) (.cons (.v 7) .nil)))
  .nil) .nil)
  (.cons (.ite (.op .isnt (.v 8) (.k .non)) (.cons (.sub (.v 3) (.v 8) (.v 9))
  .nil) .nil)
  (.cons (.ex (.mt .append (.v 5) (.cons (.v 9) .nil)))
  .nil)))))
section
variable {Z : Zi} {B : List Fd} (hU : HasU B)
include hU
theorem step13 {j c : Nat} {h h2 : Hh} {ts ps : List Tx} {ins : List (Nat × List Nat)} {kn : List (Ky × D)} {ns : List Nat} {u : Tx} {v0 v4 v6 v8 v9 : Option D} {D0 : En} (I : NumI h h2 ts ps ins kn) (hc : h.length + 3 ≤ c) (hi : ∀ p ∈ ins, p.1 ≠ c) (ec : h2[c]? = some (.lst (ns.map nD))) (hw : wfT u = true) (hv : ∀ x ∈ u.vars, ∃ t ∈ ts, x ∈ t.vars) (hp : ps.length ≤ 200000) (hl : ns.length ≤ 200000)
    (hn : ∀ ps2 kn2 num h3 v8 v9, NumI h h3 ts ps2 ins kn2 → ps2[num]? = some u → (ps2 = ps ∨ ps2 = ps ++ [u]) → h3[c]? = some (.lst ((ns ++ [num]).map nD)) → D0.nx [v0, some (.ref h.length), some (.ref (h.length + 1)), some (.ref (h.length + 2)), v4, some (.ref c), v6, some (dT u), v8, v9] h3) :
    wSs Z (WPc Z B (j + 1)) in13 D0 [v0, some (.ref h.length), some (.ref (h.length + 1)), some (.ref (h.length + 2)), v4, some (.ref c), v6, some (dT u), v8, v9] h2 := by
  have tail : ∀ ps2 kn2 num h3 v8, NumI h h3 ts ps2 ins kn2 → ps2[num]? = some u → (ps2 = ps ∨ ps2 = ps ++ [u]) → h3[c]? = some (.lst (ns.map nD)) → wSs Z (WPc Z B (j + 1)) (.cons (.ex (.mt .append (.v 5) (.cons (.v 9) .nil))) .nil) D0 [v0, some (.ref h.length), some (.ref (h.length + 1)), some (.ref (h.length + 2)), v4, some (.ref c), v6, some (dT u), v8, some (nD num)] h3 := by
    intro ps2 kn2 num h3 v8 I2 e2 e3 e4
    refine wSs_c ?_
    simp only [wS, wE, wEs, wPs, kysOf, D.ky, wO, wT, wI, Op2.sem, Bi.sem, okS, okB, En.px, List.getElem?_cons_zero, List.getElem?_cons_succ, List.set_cons_zero, List.set_cons_succ, List.map_cons, List.map_nil, List.cons_append, List.nil_append, List.append_nil, Bool.false_eq_true, if_true, if_false, reduceIte]
    rw [recT_lst e4]
    refine ⟨rfl, ?_⟩
    rw [push_at e4 (by rw [List.length_map]; omega)]
    refine wSs_n (hn ps2 kn2 num _ _ _ (I2.oth hc hi) e2 e3 ?_)
    rw [List.map_append]
    exact set_self e4
  have kl := I.knl
  unfold in13
  refine wSs_c ?_
  simp only [wS, wE, wEs, wPs, kysOf, D.ky, wO, wT, wI, Op2.sem, Bi.sem, okS, okB, En.px, List.getElem?_cons_zero, List.getElem?_cons_succ, List.set_cons_zero, List.set_cons_succ, List.map_cons, List.map_nil, List.cons_append, List.nil_append, List.append_nil, Bool.false_eq_true, if_true, if_false, reduceIte]
  refine word_w hU ?_
  refine wG_n ?_
  refine wSs_c ?_
  simp only [wS, wE, wEs, wPs, kysOf, D.ky, wO, wT, wI, Op2.sem, Bi.sem, okS, okB, En.px, List.getElem?_cons_zero, List.getElem?_cons_succ, List.set_cons_zero, List.set_cons_succ, List.map_cons, List.map_nil, List.cons_append, List.nil_append, List.append_nil, Bool.false_eq_true, if_true, if_false, reduceIte]
  rw [recT_dct I.cd]
  refine ⟨rfl, ?_⟩
  rw [lenS_ref (asL_at I.cp)]
  dsimp only
  rw [get_at I.cd]
  refine wG_n ?_
  refine wSs_c ?_
  simp only [wS, wE, wEs, wPs, kysOf, D.ky, wO, wT, wI, Op2.sem, Bi.sem, okS, okB, En.px, List.getElem?_cons_zero, List.getElem?_cons_succ, List.set_cons_zero, List.set_cons_succ, List.map_cons, List.map_nil, List.cons_append, List.nil_append, List.append_nil, Bool.false_eq_true, if_true, if_false, reduceIte]
  rw [lenS_ref (asL_at I.cp)]
  dsimp only
  rw [List.length_map]
  have neq : ∀ i : Nat, eqS h2 (nD i) (.int (ps.length : Nat)) = some (.bl (decide (i = ps.length)), h2) := fun i => by rw [← nD_beq]; rfl
  have epn : (ps ++ [u])[ps.length]? = some u := by simp
  cases ew : wordT u with
  | none =>
    rw [show D.int (ps.length : Nat) = nD ps.length from rfl]
    have e1 : eqS h2 (nD ps.length) (nD ps.length) = some (.bl true, h2) := by rw [show nD ps.length = .int (ps.length : Nat) from rfl]; rw [eqS_int]; simp
    dsimp only
    rw [e1]
    simp only [truD_b, if_true]
    refine wSs_c ?_
    simp only [wS, wE, wEs, wPs, kysOf, D.ky, wO, wT, wI, Op2.sem, Bi.sem, okS, okB, En.px, List.getElem?_cons_zero, List.getElem?_cons_succ, List.set_cons_zero, List.set_cons_succ, List.map_cons, List.map_nil, List.cons_append, List.nil_append, List.append_nil, Bool.false_eq_true, if_true, if_false, reduceIte]
    rw [recT_lst I.cp]
    refine ⟨rfl, ?_⟩
    rw [push_at I.cp (by rw [List.length_map]; omega)]
    have I2 := I.push hw hv
    rw [List.map_append, List.map_cons, List.map_nil] at I2
    refine wSs_n (wSs_c ?_)
    simp only [wS, wE, wEs, wPs, kysOf, D.ky, wO, wT, wI, Op2.sem, Bi.sem, okS, okB, En.px, List.getElem?_cons_zero, List.getElem?_cons_succ, List.set_cons_zero, List.set_cons_succ, List.map_cons, List.map_nil, List.cons_append, List.nil_append, List.append_nil, Bool.false_eq_true, if_true, if_false, reduceIte]
    rw [show isntS (h2.set h.length (.lst (ps.map dT ++ [dT u]))) (wD none) .non = some (.bl false, _) from rfl]
    simp only [truD_b, Bool.false_eq_true, if_false]
    exact wSs_n (tail _ _ _ _ _ I2 epn (.inr rfl) (set_at ec (by omega)))
  | some w =>
    dsimp only
    cases ek : getKd kn (.s w) with
    | some d =>
      obtain ⟨i, t', rfl, e1, e2⟩ := I.kn1 w d ek
      have hi' : i < ps.length := (List.getElem?_eq_some_iff.mp e1).1
      have et : t' = u := word_inj (I.wf t' (List.mem_of_getElem? e1)).1 hw e2 ew
      subst et
      rw [Option.getD_some, neq, decide_eq_false (by omega)]
      simp only [truD_b, Bool.false_eq_true, if_false]
      refine wSs_n (wSs_c ?_)
      simp only [wS, wE, wEs, wPs, kysOf, D.ky, wO, wT, wI, Op2.sem, Bi.sem, okS, okB, En.px, List.getElem?_cons_zero, List.getElem?_cons_succ, List.set_cons_zero, List.set_cons_succ, List.map_cons, List.map_nil, List.cons_append, List.nil_append, List.append_nil, Bool.false_eq_true, if_true, if_false, reduceIte]
      rw [show isntS h2 (wD (some w)) .non = some (.bl true, h2) from rfl]
      simp only [truD_b, if_true]
      refine wSs_c ?_
      simp only [wS, wE, wEs, wPs, kysOf, D.ky, wO, wT, wI, Op2.sem, Bi.sem, okS, okB, En.px, List.getElem?_cons_zero, List.getElem?_cons_succ, List.set_cons_zero, List.set_cons_succ, List.map_cons, List.map_nil, List.cons_append, List.nil_append, List.append_nil, Bool.false_eq_true, if_true, if_false, reduceIte]
      rw [I.cd]
      refine ⟨by rw [sizeLine_eq]; omega, ?_⟩
      have I2 := I.know e1 e2 (by rw [putKd_has ek]; exact I.knl)
      exact wSs_n (tail _ _ _ _ _ I2 e1 (.inl rfl) (set_at ec (by omega)))
    | none =>
      rw [Option.getD_none]
      rw [show D.int (ps.length : Nat) = nD ps.length from rfl]
      have e1 : eqS h2 (nD ps.length) (nD ps.length) = some (.bl true, h2) := by rw [show nD ps.length = .int (ps.length : Nat) from rfl]; rw [eqS_int]; simp
      rw [e1]
      simp only [truD_b, if_true]
      refine wSs_c ?_
      simp only [wS, wE, wEs, wPs, kysOf, D.ky, wO, wT, wI, Op2.sem, Bi.sem, okS, okB, En.px, List.getElem?_cons_zero, List.getElem?_cons_succ, List.set_cons_zero, List.set_cons_succ, List.map_cons, List.map_nil, List.cons_append, List.nil_append, List.append_nil, Bool.false_eq_true, if_true, if_false, reduceIte]
      rw [recT_lst I.cp]
      refine ⟨rfl, ?_⟩
      rw [push_at I.cp (by rw [List.length_map]; omega)]
      have I2 := I.push hw hv
      rw [List.map_append, List.map_cons, List.map_nil] at I2
      refine wSs_n (wSs_c ?_)
      simp only [wS, wE, wEs, wPs, kysOf, D.ky, wO, wT, wI, Op2.sem, Bi.sem, okS, okB, En.px, List.getElem?_cons_zero, List.getElem?_cons_succ, List.set_cons_zero, List.set_cons_succ, List.map_cons, List.map_nil, List.cons_append, List.nil_append, List.append_nil, Bool.false_eq_true, if_true, if_false, reduceIte]
      rw [show isntS (h2.set h.length (.lst (ps.map dT ++ [dT u]))) (wD (some w)) .non = some (.bl true, _) from rfl]
      simp only [truD_b, if_true]
      refine wSs_c ?_
      simp only [wS, wE, wEs, wPs, kysOf, D.ky, wO, wT, wI, Op2.sem, Bi.sem, okS, okB, En.px, List.getElem?_cons_zero, List.getElem?_cons_succ, List.set_cons_zero, List.set_cons_succ, List.map_cons, List.map_nil, List.cons_append, List.nil_append, List.append_nil, Bool.false_eq_true, if_true, if_false, reduceIte]
      rw [I2.cd]
      refine ⟨by rw [sizeLine_eq]; omega, ?_⟩
      have pl := putKd_len kn (.s w) (nD ps.length)
      have I3 := I2.know epn ew (by rw [List.length_append, List.length_cons, List.length_nil]; omega)
      exact wSs_n (tail _ _ _ _ _ I3 epn (.inr rfl) (set_at (set_at ec (by omega)) (by omega)))
end
end Mi

set_option Elab.async false
set_option linter.all false
set_option maxRecDepth 100000
set_option maxHeartbeats 4000000
/-! unifying: _numbered, the whole -/
namespace Mi
open PySem PySem.Spec PyProof.Rows L2 Un
theorem drop_pre {α : Type} {l m : List α} (p : l <+: m) {n : Nat} (hn : n ≤ l.length) : m.drop n = l.drop n ++ m.drop l.length := by
  obtain ⟨t, rfl⟩ := p
  rw [List.drop_append_of_le_length hn, List.drop_left]
theorem take_snoc {α : Type} {l : List α} {i : Nat} {x : α} (e : l[i]? = some x) : l.take (i + 1) = l.take i ++ [x] := by
  rw [List.take_add_one, e]; rfl
section
variable {Z : Zi} {B : List Fd} (hU : HasU B)
include hU
theorem numbered_w {j a : Nat} {ts : List Tx} {h : Hh} {Q : PQ} {Qx : PX} (hw : ∀ t ∈ ts, wfT t = true) (hz : szs ts ≤ 100000) (e : h[a]? = some (.lst (ts.map dT)))
    (k : ∀ ps ins kn h', NumI h h' ts ps ins kn → ins.length = ps.length → ps.length ≤ szs ts → Q (.tup [.ref h.length, .ref (h.length + 1)]) h') : WPc Z B (j + 2) 13 [.ref a] h Q Qx := by
  unfold WPc
  rw [hU 13 _ rfl]
  refine ⟨rfl, ?_⟩
  show wSs Z _ Uf.b13.body _ [some (.ref a), none, none, none, none, none, none, none, none, none] h
  unfold Uf.b13
  refine wSs_c ?_
  simp only [wS, wE, wEs, wPs, kysOf, D.ky, wO, wT, wI, Op2.sem, Bi.sem, okS, okB, En.px, List.getElem?_cons_zero, List.getElem?_cons_succ, List.set_cons_zero, List.set_cons_succ, List.map_cons, List.map_nil, List.cons_append, List.nil_append, List.append_nil, Bool.false_eq_true, if_true, if_false, reduceIte]
  rw [show listS h [.ref a] = some (.ref h.length, h ++ [.lst (ts.map dT)]) from by
    unfold listS
    dsimp only
    rw [asK_of (asL_at e), asL_at e]; rfl]
  refine wG_n ?_
  refine wSs_c ?_
  simp only [wS, wE, wEs, wPs, kysOf, D.ky, wO, wT, wI, Op2.sem, Bi.sem, okS, okB, En.px, List.getElem?_cons_zero, List.getElem?_cons_succ, List.set_cons_zero, List.set_cons_succ, List.map_cons, List.map_nil, List.cons_append, List.nil_append, List.append_nil, Bool.false_eq_true, if_true, if_false, reduceIte]
  refine ⟨by rw [sizeLine_eq]; simp, wG_n ?_⟩
  refine wSs_c ?_
  simp only [wS, wE, wEs, wPs, kysOf, D.ky, wO, wT, wI, Op2.sem, Bi.sem, okS, okB, En.px, List.getElem?_cons_zero, List.getElem?_cons_succ, List.set_cons_zero, List.set_cons_succ, List.map_cons, List.map_nil, List.cons_append, List.nil_append, List.append_nil, Bool.false_eq_true, if_true, if_false, reduceIte]
  refine ⟨by simp, new_at, wG_n ?_⟩
  simp only [List.set_cons_succ, List.set_cons_zero, List.length_append, List.length_cons, List.length_nil]
  have l2 : (h ++ [O.lst (ts.map dT)] ++ [O.lst []] ++ [O.dct false []]).set (h.length + (0 + 1) + (0 + 1)) (.dct false (mergeKd [] [])) = h ++ [O.lst (ts.map dT), O.lst [], O.dct false []] := by
    rw [show h.length + (0 + 1) + (0 + 1) = (h ++ [O.lst (ts.map dT)] ++ [O.lst []]).length from by simp, set_new, List.append_assoc, List.append_assoc]; rfl
  rw [l2]
  have g : ∀ i, (h ++ [O.lst (ts.map dT), O.lst [], O.dct false []])[h.length + i]? = [O.lst (ts.map dT), O.lst [], O.dct false []][i]? := fun i => by rw [List.getElem?_append_right (by omega), Nat.add_sub_cancel_left]
  have I0 : NumI h (h ++ [O.lst (ts.map dT), O.lst [], O.dct false []]) ts ts [] [] := ⟨⟨_, rfl⟩, g 0, g 1, g 2, List.prefix_refl _, fun t ht => ⟨hw t ht, fun x hx => ⟨t, ht, hx⟩⟩, fun w d q => (by cases q), Nat.zero_le _, fun i p q => (by simp at q)⟩
  refine wSs_c ?_
  simp only [wS]
  refine ⟨fun m τ h' => ∃ ps ins kn v4 v5 v6 v7 v8 v9, NumI h h' ts ps ins kn ∧ szs (ps.drop ins.length) = m ∧ ins.length + m ≤ szs ts ∧ τ = [some (.ref a), some (.ref h.length), some (.ref (h.length + 1)), some (.ref (h.length + 2)), v4, v5, v6, v7, v8, v9],
    ⟨_, ts, [], [], none, none, none, none, none, none, I0, rfl, by simp, rfl⟩, ?_⟩
  rintro m τ h' ⟨ps, ins, kn, v4, v5, v6, v7, v8, v9, I, hm, hb, rfl⟩
  have il := I.len
  have pl : ps.length ≤ szs ts := by
    have := szs_len (ps.drop ins.length)
    rw [List.length_drop] at this
    omega
  simp only [wS, wE, wEs, wPs, kysOf, D.ky, wO, wT, wI, Op2.sem, Bi.sem, okS, okB, En.px, List.getElem?_cons_zero, List.getElem?_cons_succ, List.set_cons_zero, List.set_cons_succ, List.map_cons, List.map_nil, List.cons_append, List.nil_append, List.append_nil, Bool.false_eq_true, if_true, if_false, reduceIte]
  rw [lenS_ref (asL_at I.cq)]
  dsimp only
  rw [lenS_ref (asL_at I.cp)]
  dsimp only
  rw [ltS_i]
  simp only [truD_b, List.length_map]
  by_cases c : ins.length < ps.length
  · rw [decide_eq_true (show (ins.length : Int) < (ps.length : Int) by omega), if_pos rfl]
    obtain ⟨t, et⟩ : ∃ t, ps[ins.length]? = some t := ⟨_, List.getElem?_eq_getElem c⟩
    have ht := I.wf t (List.mem_of_getElem? et)
    refine wSs_c ?_
    simp only [wS, wE, wEs, wPs, kysOf, D.ky, wO, wT, wI, Op2.sem, Bi.sem, okS, okB, En.px, List.getElem?_cons_zero, List.getElem?_cons_succ, List.set_cons_zero, List.set_cons_succ, List.map_cons, List.map_nil, List.cons_append, List.nil_append, List.append_nil, Bool.false_eq_true, if_true, if_false, reduceIte]
    rw [lenS_ref (asL_at I.cq)]
    dsimp only
    rw [List.length_map, ixS_ref (asL_at I.cp) (atI_nat (d := dT t) (by rw [List.getElem?_map, et]; rfl))]
    refine wG_n ?_
    refine wSs_c ?_
    simp only [wS, wE, wEs, wPs, kysOf, D.ky, wO, wT, wI, Op2.sem, Bi.sem, okS, okB, En.px, List.getElem?_cons_zero, List.getElem?_cons_succ, List.set_cons_zero, List.set_cons_succ, List.map_cons, List.map_nil, List.cons_append, List.nil_append, List.append_nil, Bool.false_eq_true, if_true, if_false, reduceIte]
    refine ⟨by rw [sizeLine_eq]; simp, wG_n ?_⟩
    refine wSs_c ?_
    simp only [wS, wE, wEs, wPs, kysOf, D.ky, wO, wT, wI, Op2.sem, Bi.sem, okS, okB, En.px, List.getElem?_cons_zero, List.getElem?_cons_succ, List.set_cons_zero, List.set_cons_succ, List.map_cons, List.map_nil, List.cons_append, List.nil_append, List.append_nil, Bool.false_eq_true, if_true, if_false, reduceIte]
    simp only [isi_dT, truD_b]
    have cc : h.length + 3 ≤ h'.length := at_lt I.cd
    have ci : ∀ p ∈ ins, p.1 ≠ h'.length := fun p hp => by
      obtain ⟨i, hi⟩ := List.getElem?_of_mem hp
      have := at_lt (I.inn i p hi).2.1
      omega
    have I1 : NumI h (h' ++ [.lst []]) ts ps ins kn := I.ext (pre_snoc (List.prefix_refl _))
    -- what is in the loop
    have loop : ∀ {D0 : En} {v7 v8 v9 : Option D}, (∀ (ps2 : List Tx) (kn2 : List (Ky × D)) (ns : List Nat) (h2 : Hh) v7 v8 v9, NumI h h2 ts ps2 ins kn2 → ps <+: ps2 → h2[h'.length]? = some (.lst (ns.map nD)) → ns.map (fun j => ps2[j]?) = (subT t).map some → szs (ps2.drop (ins.length + 1)) ≤ szs (ps.drop (ins.length + 1)) + szs (subT t) → D0.nx [some (.ref a), some (.ref h.length), some (.ref (h.length + 1)), some (.ref (h.length + 2)), some (dT t), some (.ref h'.length), some (.tup ((subT t).map dT)), v7, v8, v9] h2) →
        wS Z (WPc Z B (j + 1)) (.loop (.n 7) (.nm 6) in13) D0 [some (.ref a), some (.ref h.length), some (.ref (h.length + 1)), some (.ref (h.length + 2)), some (dT t), some (.ref h'.length), some (.tup ((subT t).map dT)), v7, v8, v9] (h' ++ [.lst []]) := by
      intro D0 v7 v8 v9 hn
      simp only [wS]
      rw [lk_nm (d := .tup ((subT t).map dT)) rfl (fun a kvs q => by cases q)]
      simp only [wI]
      rw [dctAt_none (d := .tup ((subT t).map dT)) rfl (fun a q => by cases q)]
      dsimp only [srcD, List.getElem?_cons_succ, List.getElem?_cons_zero]
      refine wItems_inv (fun i τ h2 => ∃ (ps2 : List Tx) (kn2 : List (Ky × D)) (ns : List Nat) (v7 v8 v9 : Option D), NumI h h2 ts ps2 ins kn2 ∧ ps <+: ps2 ∧ h2[h'.length]? = some (.lst (ns.map nD)) ∧ ns.map (fun j => ps2[j]?) = ((subT t).take i).map some ∧ szs (ps2.drop (ins.length + 1)) ≤ szs (ps.drop (ins.length + 1)) + szs ((subT t).take i) ∧ τ = [some (.ref a), some (.ref h.length), some (.ref (h.length + 1)), some (.ref (h.length + 2)), some (dT t), some (.ref h'.length), some (.tup ((subT t).map dT)), v7, v8, v9]) (fun _ _ _ _ => trivial) ?_ ?_
        ⟨ps, kn, [], _, _, _, I1, List.prefix_refl _, new_at, by simp, by simp, rfl⟩
      · rintro i d τ h2 kk ed ⟨ps2, kn2, ns, v7, v8, v9, I2, pp, ec, en, ez, rfl⟩ hkk
        rw [List.getElem?_map] at ed
        obtain ⟨u, eu, rfl⟩ := Option.map_eq_some_iff.mp ed
        have hu := List.mem_of_getElem? eu
        refine wG_n ?_
        have s1 := size_sub1 t
        have st : szs (subT t) < t.size := by unfold szs; omega
        have tk : szs ((subT t).take i) ≤ szs (subT t) := by
          conv => rhs; rw [← List.take_append_drop i (subT t), szs_app]
          omega
        have zd : szs (ps.drop ins.length) = t.size + szs (ps.drop (ins.length + 1)) := by rw [drop_cons et, szs_cons]
        have l2 : ps2.length ≤ 200000 := by
          have a1 := szs_len (ps2.drop (ins.length + 1))
          rw [List.length_drop] at a1
          omega
        have nl : ns.length = ((subT t).take i).length := by have := congrArg List.length en; simpa using this
        refine step13 hU I2 cc ci ec (wf_sub ht.1 hu) (fun x hx => ht.2 x (vars_sub hu hx)) l2 ?_ fun ps3 kn3 num h3 v8 v9 I3 e3 e4 e5 => ?_
        · have a1 := szs_len ((subT t).take i)
          omega
        · have p23 : ps2 <+: ps3 := by
            rcases e4 with q | q
            · rw [q]; exact List.prefix_refl _
            · rw [q]; exact ⟨[u], rfl⟩
          have en2 : ns.map (fun j => ps3[j]?) = ((subT t).take i).map some := by
            rcases e4 with q | q
            · rw [q]; exact en
            · rw [q]; exact getm_mono en
          refine hkk _ _ ⟨ps3, kn3, ns ++ [num], some (dT u), v8, v9, I3, pp.trans p23, e5, ?_, ?_, rfl⟩
          · rw [List.map_append, List.map_cons, List.map_nil, e3, en2, take_snoc eu, List.map_append]; rfl
          · rw [take_snoc eu, szs_app]
            have : szs [u] = u.size := by simp [szs]
            rcases e4 with q | q
            · rw [q]; omega
            · rw [q]
              have l3 := pp.length_le
              rw [List.drop_append_of_le_length (by omega), szs_app]
              omega
      · rintro τ h2 ⟨ps2, kn2, ns, v7, v8, v9, I2, pp, ec, en, ez, rfl⟩
        rw [List.length_map, List.take_of_length_le (Nat.le_refl _)] at en ez
        exact hn ps2 kn2 ns h2 v7 v8 v9 I2 pp ec en ez
    have fin : ∀ {D0 : En}, (∀ m' τ h2, m' < m → (∃ ps ins kn v4 v5 v6 v7 v8 v9, NumI h h2 ts ps ins kn ∧ szs (ps.drop ins.length) = m' ∧ ins.length + m' ≤ szs ts ∧ τ = [some (.ref a), some (.ref h.length), some (.ref (h.length + 1)), some (.ref (h.length + 2)), v4, v5, v6, v7, v8, v9]) → D0.nx τ h2) →
        wG (.n 6) (.tup ((subT t).map dT)) (wSs Z (WPc Z B (j + 1)) (.cons (.loop (.n 7) (.nm 6) in13) (.cons (.ex (.mt .append (.v 2) (.cons (.v 5) .nil))) .nil)) D0) [some (.ref a), some (.ref h.length), some (.ref (h.length + 1)), some (.ref (h.length + 2)), some (dT t), some (.ref h'.length), v6, v7, v8, v9] (h' ++ [.lst []]) := by
      intro D0 hn
      refine wG_n ?_
      refine wSs_c ?_
      refine loop fun ps2 kn2 ns h2 v7 v8 v9 I2 pp ec en ez => ?_
      refine wSs_c ?_
      simp only [wS, wE, wEs, wPs, kysOf, D.ky, wO, wT, wI, Op2.sem, Bi.sem, okS, okB, En.px, List.getElem?_cons_zero, List.getElem?_cons_succ, List.set_cons_zero, List.set_cons_succ, List.map_cons, List.map_nil, List.cons_append, List.nil_append, List.append_nil, Bool.false_eq_true, if_true, if_false, reduceIte]
      rw [recT_lst I2.cq]
      refine ⟨rfl, ?_⟩
      rw [push_at I2.cq (by rw [List.length_map]; omega)]
      have et2 : ps2[ins.length]? = some t := by
        obtain ⟨tt, rfl⟩ := pp
        rw [List.getElem?_append_left c]; exact et
      have I3 := I2.done (by omega) ec et2 en
      rw [List.map_append, List.map_cons, List.map_nil] at I3
      have zd : szs (ps.drop ins.length) = t.size + szs (ps.drop (ins.length + 1)) := by rw [drop_cons et, szs_cons]
      have s1 := size_sub1 t
      have st : szs (subT t) < t.size := by unfold szs; omega
      refine wSs_n (hn (szs (ps2.drop (ins.length + 1))) _ _ (by omega) ⟨ps2, ins ++ [(h'.length, ns)], kn2, _, _, _, _, _, _, I3, ?_, ?_, rfl⟩)
      · rw [List.length_append]; rfl
      · rw [List.length_append, List.length_cons, List.length_nil]; omega
    cases t with
    | v x =>
      simp only [isV, if_true]
      refine ⟨by rw [sizeLine_eq]; simp, ?_⟩
      refine fin ?_
      intro m' τ h2 hlt q
      exact ⟨m', hlt, q⟩
    | a n us =>
      simp only [isV, Bool.false_eq_true, if_false, ix1_dT]
      refine fin ?_
      intro m' τ h2 hlt q
      exact ⟨m', hlt, q⟩
  · rw [decide_eq_false (show ¬ (ins.length : Int) < (ps.length : Int) by omega), if_neg (by decide)]
    refine wSs_c ?_
    simp only [wS, wE, wEs, wPs, kysOf, D.ky, wO, wT, wI, Op2.sem, Bi.sem, okS, okB, En.px, List.getElem?_cons_zero, List.getElem?_cons_succ, List.set_cons_zero, List.set_cons_succ, List.map_cons, List.map_nil, List.cons_append, List.nil_append, List.append_nil, Bool.false_eq_true, if_true, if_false, reduceIte]
    refine ⟨by rw [sizeLine_eq]; simp, k ps ins kn h' I (by omega) pl⟩
end
end Mi

set_option Elab.async false
set_option linter.all false
set_option maxRecDepth 100000
set_option maxHeartbeats 4000000
/-! unifying: _same_variables -/
namespace Mi
open PySem PySem.Spec PyProof.Rows L2 Un
/-- the parts, as the defs hold them -/
structure Parts (h : Hh) (p q N : Nat) (pt : Nat → Tx) (ia : Nat → Nat) (inr : Nat → List Nat) : Prop where
  cp : h[p]? = some (O.lst (fnD N fun i => dT (pt i)))
  cq : h[q]? = some (O.lst (fnD N fun i => D.ref (ia i)))
  ci : ∀ i, i < N → h[ia i]? = some (O.lst ((inr i).map nD))
theorem Parts.ext {h h' : Hh} {p q N : Nat} {pt : Nat → Tx} {ia : Nat → Nat} {inr : Nat → List Nat} (R : Parts h p q N pt ia inr) (e : h <+: h') : Parts h' p q N pt ia inr := ⟨pre_at e R.cp, pre_at e R.cq, fun i hi => pre_at e (R.ci i hi)⟩
def qD (p : Nat × Nat) : D := .tup [nD p.1, nD p.2]
theorem enum_fn {N : Nat} {f : Nat → D} : enumD (fnD N f) = (List.range N).map fun i => .tup [nD i, f i] := by
  unfold enumD
  rw [fnD_len]
  unfold fnD
  apply List.ext_getElem?
  intro i
  rw [List.getElem?_zipWith, List.getElem?_map, List.getElem?_map]
  by_cases hi : i < N
  · rw [List.getElem?_range hi]; rfl
  · rw [List.getElem?_eq_none (by simpa using hi)]; rfl
theorem dct_setdef {h : Hh} {i : Nat} {kn : List (Ky × D)} {x : List Nat} {d : D} (e : h[i]? = some (.dct false kn)) (hl : kn.length < 1000000) : mtS .setdefault .dct h [.ref i, .str x, d] = some (match getKd kn (.s x) with
    | some e => (e, h)
    | none => (d, h.set i (.dct false (putKd kn (.s x) d)))) := by
  unfold mtS
  dsimp only
  rw [e]
  exact if_pos (by rw [sizeLine_eq]; omega)
section
variable {Z : Zi} {B : List Fd} (hU : HasU B)
include hU
theorem sameV_w {j p q N : Nat} {pt : Nat → Tx} {ia : Nat → Nat} {inr : Nat → List Nat} {h : Hh} {Q : PQ} {Qx : PX} (R : Parts h p q N pt ia inr) (hN : N ≤ 200000)
    (k : ∀ (sv : List (Nat × Nat)) a h', h <+: h' → h'[a]? = some (.lst (sv.map qD)) → sv.length ≤ N → (∀ q ∈ sv, q.1 < N ∧ q.2 < N ∧ ∃ x, pt q.1 = .v x ∧ pt q.2 = .v x) → (∀ i j x, i < N → j < N → pt i = .v x → pt j = .v x → i = j ∨ (i, j) ∈ sv ∨ (j, i) ∈ sv ∨ ∃ l, (l, i) ∈ sv ∧ (l, j) ∈ sv) → Q (.ref a) h') : WPc Z B (j + 2) 15 [.ref p] h Q Qx := by
  unfold WPc
  rw [hU 15 _ rfl]
  refine ⟨rfl, ?_⟩
  show wSs Z _ Uf.b15.body _ [some (.ref p), none, none, none] h
  unfold Uf.b15
  refine wSs_c ?_
  simp only [wS, wE, wEs, wPs, kysOf, D.ky, wO, wT, wI, Op2.sem, Bi.sem, okS, okB, En.px, List.getElem?_cons_zero, List.getElem?_cons_succ, List.set_cons_zero, List.set_cons_succ, List.map_cons, List.map_nil, List.cons_append, List.nil_append, List.append_nil, Bool.false_eq_true, if_true, if_false, reduceIte]
  refine ⟨by simp, new_at, wG_n ?_⟩
  simp only [List.set_cons_succ, List.set_cons_zero]
  rw [set_new, show mergeKd [] [] = [] from rfl]
  have p0 : h <+: h ++ [.dct false []] := pre_snoc (List.prefix_refl _)
  refine wSs_c ?_
  simp only [wS, lk_en]
  simp only [wS, wE, wEs, wPs, kysOf, D.ky, wO, wT, wI, Op2.sem, Bi.sem, okS, okB, En.px, List.getElem?_cons_zero, List.getElem?_cons_succ, List.set_cons_zero, List.set_cons_succ, List.map_cons, List.map_nil, List.cons_append, List.nil_append, List.append_nil, Bool.false_eq_true, if_true, if_false, reduceIte]
  rw [asL_at (pre_at p0 R.cp)]
  dsimp only
  rw [enum_fn]
  refine wItems_inv (fun i τ h' => ∃ (kn : List (Ky × D)) (v2 v3 : Option D), h <+: h' ∧ h'[h.length]? = some (.dct false kn) ∧ kn.length ≤ i ∧ (∀ x d, getKd kn (.s x) = some d → ∃ f, d = nD f ∧ f < N ∧ pt f = .v x) ∧ (∀ l x, l < i → l < N → pt l = .v x → (getKd kn (.s x)).isSome = true) ∧ τ = [some (.ref p), some (.ref h.length), v2, v3]) (fun i τ h' ⟨kn, v2, v3, a, _⟩ => asL_at (pre_at a R.cp)) ?_ ?_ ⟨[], none, none, p0, new_at, by simp, fun x d q => (by cases q), fun l x q => (by omega), rfl⟩
  · rintro i d τ h' kk ed ⟨kn, v2, v3, pp, ek, kl, k1, k2, rfl⟩ hkk
    rw [List.getElem?_map] at ed
    obtain ⟨i', ei, rfl⟩ := Option.map_eq_some_iff.mp ed
    have hi : i < N := by simpa using (List.getElem?_eq_some_iff.mp ei).1
    rw [List.getElem?_range hi] at ei
    cases ei
    refine wG_2 ?_
    refine wSs_c ?_
    simp only [wS, wE, wEs, wPs, kysOf, D.ky, wO, wT, wI, Op2.sem, Bi.sem, okS, okB, En.px, List.getElem?_cons_zero, List.getElem?_cons_succ, List.set_cons_zero, List.set_cons_succ, List.map_cons, List.map_nil, List.cons_append, List.nil_append, List.append_nil, Bool.false_eq_true, if_true, if_false, reduceIte]
    simp only [isi_dT, truD_b]
    cases et : pt i with
    | a n us =>
      simp only [isV, Bool.false_eq_true, if_false]
      refine wSs_n (hkk _ _ ⟨kn, _, _, pp, ek, by omega, k1, fun l x hl hl2 e => ?_, rfl⟩)
      by_cases c : l = i
      · subst c; rw [et] at e; cases e
      · exact k2 l x (by omega) hl2 e
    | v x =>
      simp only [isV, if_true, dT_v]
      refine wSs_c ?_
      simp only [wS, wE, wEs, wPs, kysOf, D.ky, wO, wT, wI, Op2.sem, Bi.sem, okS, okB, En.px, List.getElem?_cons_zero, List.getElem?_cons_succ, List.set_cons_zero, List.set_cons_succ, List.map_cons, List.map_nil, List.cons_append, List.nil_append, List.append_nil, Bool.false_eq_true, if_true, if_false, reduceIte]
      rw [recT_dct ek]
      refine ⟨rfl, ?_⟩
      rw [dct_setdef ek (by omega)]
      cases eg : getKd kn (.s x) with
      | some e =>
        dsimp only
        refine wSs_n (hkk _ _ ⟨kn, _, _, pp, ek, by omega, k1, fun l y hl hl2 e => ?_, rfl⟩)
        by_cases c : l = i
        · subst c; rw [et] at e; cases e; rw [eg]; rfl
        · exact k2 l y (by omega) hl2 e
      | none =>
        dsimp only
        have pl := putKd_len kn (.s x) (nD i)
        refine wSs_n (hkk _ _ ⟨putKd kn (.s x) (nD i), _, _, pre_set pp (Nat.le_refl _), set_self ek, by omega, fun y d q => ?_, fun l y hl hl2 e => ?_, rfl⟩)
        · rw [getKd_put] at q
          by_cases c : Ky.s x = Ky.s y
          · rw [if_pos c] at q
            cases q; cases c
            exact ⟨i, rfl, hi, et⟩
          · rw [if_neg c] at q
            exact k1 y d q
        · rw [getKd_put]
          by_cases c : Ky.s x = Ky.s y
          · rw [if_pos c]; rfl
          · rw [if_neg c]
            by_cases c2 : l = i
            · subst c2; rw [et] at e; cases e; exact absurd rfl c
            · exact k2 l y (by omega) hl2 e
  · rintro τ h' ⟨kn, v2, v3, pp, ek, kl, k1, k2, rfl⟩
    rw [List.length_map, List.length_range] at kl k2
    obtain ⟨fi, hfi⟩ : ∃ fi : List Nat → Nat, ∀ l x, l < N → pt l = .v x → getKd kn (.s x) = some (nD (fi x)) ∧ fi x < N ∧ pt (fi x) = .v x := by
      refine ⟨fun x => match getKd kn (.s x) with
        | some (.int z) => z.toNat
        | _ => 0, fun l x hl e => ?_⟩
      have := k2 l x hl hl e
      cases eg : getKd kn (.s x) with
      | none => rw [eg] at this; cases this
      | some d =>
        obtain ⟨f, rfl, hf, ef⟩ := k1 x d eg
        have e1 : (match getKd kn (.s x) with
          | some (.int z) => z.toNat
          | _ => 0) = f := by rw [eg]; rfl
        dsimp only
        rw [e1]
        exact ⟨rfl, hf, ef⟩
    refine wSs_c ?_
    simp only [wS, wE, wEs, wPs, kysOf, D.ky, wO, wT, wI, Op2.sem, Bi.sem, okS, okB, En.px, List.getElem?_cons_zero, List.getElem?_cons_succ, List.set_cons_zero, List.set_cons_succ, List.map_cons, List.map_nil, List.cons_append, List.nil_append, List.append_nil, Bool.false_eq_true, if_true, if_false, reduceIte]
    simp only [lk_en]
    rw [asL_at (pre_at pp R.cp)]
    dsimp only
    rw [enum_fn]
    refine wAcc_xs (h0 := h') (l := List.range N) (acc := []) (fun i => .tup [nD i, dT (pt i)]) (fun i => match pt i with
      | .v x => if fi x = i then none else some (qD (fi x, i))
      | _ => none) (fun h2 p2 => asL_at (pre_at (pp.trans p2) R.cp)) (fun i hi q sk h2 p2 _ hq hsk => ?_) (pre_snoc (List.prefix_refl _)) new_at (by simp; omega) fun h2 p2 e2 => ?_
    · have hi : i < N := List.mem_range.mp hi
      simp only [wipeA, List.set_cons_succ, List.set_cons_zero]
      refine wG_2 ?_
      simp only [wS, wE, wEs, wPs, kysOf, D.ky, wO, wT, wI, Op2.sem, Bi.sem, okS, okB, En.px, List.getElem?_cons_zero, List.getElem?_cons_succ, List.set_cons_zero, List.set_cons_succ, List.map_cons, List.map_nil, List.cons_append, List.nil_append, List.append_nil, Bool.false_eq_true, if_true, if_false, reduceIte]
      simp only [isi_dT, truD_b]
      cases et : pt i with
      | a n us =>
        simp only [isV, truD_b, Bool.false_eq_true, if_false]
        rw [et] at hsk
        exact hsk rfl _ (List.prefix_refl _)
      | v x =>
        rw [et] at hsk hq
        obtain ⟨f1, f2, f3⟩ := hfi i x hi et
        simp only [isV, if_true, dT_v]
        rw [ixS_dct (pre_at p2 ek) (k := .s x) rfl f1]
        dsimp only
        rw [show neS h2 (nD (fi x)) (nD i) = some (.bl (!decide (fi x = i)), h2) from by rw [← nD_beq]; rfl]
        simp only [truD_b]
        by_cases c : fi x = i
        · rw [decide_eq_true c]
          simp only [Bool.not_true, Bool.false_eq_true, if_false]
          dsimp only at hsk
          exact hsk (if_pos c) _ (List.prefix_refl _)
        · rw [decide_eq_false c]
          simp only [Bool.not_false, if_true]
          dsimp only at hq
          rw [ixS_dct (pre_at p2 ek) (k := .s x) rfl f1]
          exact ⟨by rw [sizeLine_eq]; simp, hq _ (if_neg c) _ (List.prefix_refl _)⟩
    · have es : (List.range N).filterMap (fun i => match pt i with
          | .v x => if fi x = i then none else some (qD (fi x, i))
          | _ => none) = ((List.range N).filterMap fun i => match pt i with
          | .v x => if fi x = i then none else some (fi x, i)
          | _ => none).map qD := by
        rw [List.map_filterMap]
        congr 1
        funext i
        cases pt i with
        | a n us => rfl
        | v x =>
          dsimp only
          split <;> rfl
      rw [List.nil_append, es] at e2
      have mem : ∀ i x, i < N → pt i = .v x → fi x ≠ i → (fi x, i) ∈ ((List.range N).filterMap fun i => match pt i with
          | .v x => if fi x = i then none else some (fi x, i)
          | _ => none) := fun i x hi e c => List.mem_filterMap.mpr ⟨i, List.mem_range.mpr hi, by rw [e]; exact if_neg c⟩
      refine k _ _ h2 (pp.trans p2) e2 ?_ ?_ ?_
      · exact Nat.le_trans (List.length_filterMap_le _ _) (by simp)
      · intro r hr
        obtain ⟨i, hi, e⟩ := List.mem_filterMap.mp hr
        have hi := List.mem_range.mp hi
        cases et : pt i with
        | a n us => rw [et] at e; cases e
        | v x =>
          rw [et] at e
          dsimp only at e
          obtain ⟨f1, f2, f3⟩ := hfi i x hi et
          split at e
          · cases e
          · cases e
            exact ⟨f2, hi, x, f3, et⟩
      · intro i l x hi hl ei el
        by_cases c1 : fi x = i
        · by_cases c2 : fi x = l
          · exact .inl (by omega)
          · have := mem l x hl el c2
            rw [c1] at this
            exact .inr (.inl this)
        · by_cases c2 : fi x = l
          · have := mem i x hi ei c1
            rw [c2] at this
            exact .inr (.inr (.inl this))
          · exact .inr (.inr (.inr ⟨fi x, mem i x hi ei c1, mem l x hl el c2⟩))
end
end Mi

set_option Elab.async false
set_option linter.all false
set_option maxRecDepth 100000
set_option maxHeartbeats 4000000
/-! unifying: _merged -/
namespace Mi
open PySem PySem.Spec PyProof.Rows L2 Un
theorem fnD_up {N k v : Nat} {f : Nat → Nat} : (fnD N fun i => nD (f i)).set k (nD v) = fnD N fun i => nD (uq1 f k v i) := by
  rw [fnD_set]
  refine fnD_congr fun i _ => ?_
  unfold uq1
  split <;> rfl
theorem uq1_id {f : Nat → Nat} {k : Nat} : uq1 f k (f k) = f := by
  funext i
  unfold uq1
  split
  · next e => rw [e]
  · rfl
structure MgI (h h' : Hh) (N : Nat) (tp ld wg : Nat → Nat) (td : List (Nat × Nat)) : Prop where
  pre : h <+: h'
  c3 : h'[h.length]? = some (O.lst (fnD N fun i => nD (tp i)))
  c4 : h'[h.length + 1]? = some (O.lst (fnD N fun i => nD (ld i)))
  c5 : h'[h.length + 3]? = some (O.lst (fnD N fun i => nD (wg i)))
  c6 : h'[h.length + 4]? = some (O.lst (td.map qD))
def rest16 : Ss := (.cons (.sub (.v 3) (.v 10) (.v 9))
  (.cons (.sub (.v 5) (.v 9) (.op .add (.op .ix (.v 5) (.v 9)) (.op .ix (.v 5) (.v 10))))
  (.cons (.par 7 8 (.op .ix (.v 4) (.v 9)) (.op .ix (.v 4) (.v 10)))
  (.cons (.ite (.isi .str (.op .ix (.v 0) (.v 7))) (.cons (.sub (.v 4) (.v 9) (.v 8))
  .nil) (.cons (.ite (.not (.isi .str (.op .ix (.v 0) (.v 8)))) (.cons (.ite (.not (.call 18 (.cons (.op .ix (.v 0) (.v 7)) (.cons (.op .ix (.v 0) (.v 8)) .nil)))) (.cons (.ret (.k .non))
  .nil) .nil)
  (.cons (.ex (.mt .extend (.v 6) (.cons (.bi .lzip (.cons (.op .ix (.v 1) (.v 7)) (.cons (.op .ix (.v 1) (.v 8)) .nil))) .nil)))
  .nil)) .nil)
  .nil))
  .nil))))
theorem addS_n {h : Hh} {a b : Nat} : addS h (nD a) (nD b) = some (nD (a + b), h) := by
  show some (D.int ((a : Int) + (b : Int)), h) = _
  rw [show (a : Int) + (b : Int) = ((a + b : Nat) : Int) from by omega]; rfl
theorem ixN_n {n i : Nat} (hi : i < n) : ixN n (i : Int) = some i := ixN_nat hi
section
variable {Z : Zi} {B : List Fd} (hU : HasU B)
variable {P : Uprs} {N : Nat} {pt : Nat → Tx} {inr : Nat → List Nat} {ia : Nat → Nat} {sm : List (Nat × Nat)} {tp ld rt dp wg : Nat → Nat} {td : List (Nat × Nat)} {nr : Nat}
theorem UF.pos (U : UF P N pt inr sm tp ld rt dp td nr) {l : Nat} (hl : l < N) (e : tp l = l) : 1 ≤ nr := by
  rw [← U.cnt]
  exact List.length_pos_of_mem (List.mem_filter.mpr ⟨List.mem_range.mpr hl, by simp [e]⟩)
include hU
theorem tail16 {j p q hi lo : Nat} {pr : Nat × Nat} {h h' : Hh} {v2 v7 v8 v11 : Option D} {D0 : En} (R : Prt P N pt inr) (RP : Parts h p q N pt ia inr) (ar : ∀ i, i < N → (inr i).length ≤ 4) (vi : ∀ i, i < N → (inr i).length = (subT (pt i)).length)
    (U : UF P N pt inr sm tp ld rt dp (td ++ [pr]) nr) (hd : (rt pr.1 = hi ∧ rt pr.2 = lo) ∨ (rt pr.1 = lo ∧ rt pr.2 = hi)) (ne : hi ≠ lo) (M : MgI h h' N tp ld wg td) (hb : 5 * nr + td.length ≤ 900000)
    (hret : (¬ ∃ r, Unif r P) → ∀ h'', h <+: h'' → D0.rt .non h'')
    (hn : ∀ tp' ld' rt' dp' wg' td' nr' h'' v7 v8, MgI h h'' N tp' ld' wg' td' → UF P N pt inr sm tp' ld' rt' dp' td' nr' → 5 * nr' + td'.length < 5 * nr + td.length + 1 → D0.nx [some (.ref p), some (.ref q), v2, some (.ref h.length), some (.ref (h.length + 1)), some (.ref (h.length + 3)), some (.ref (h.length + 4)), v7, v8, some (nD hi), some (nD lo), v11] h'') :
    wSs Z (WPc Z B (j + 1)) rest16 D0 [some (.ref p), some (.ref q), v2, some (.ref h.length), some (.ref (h.length + 1)), some (.ref (h.length + 3)), some (.ref (h.length + 4)), v7, v8, some (nD hi), some (nD lo), v11] h' := by
  have lt := U.tdlt pr (by simp)
  have hp : hi < N ∧ lo < N ∧ rt hi = hi ∧ rt lo = lo := by
    rcases hd with ⟨a, b⟩ | ⟨a, b⟩
    · rw [← a, ← b]; exact ⟨U.rtlt _ lt.1, U.rtlt _ lt.2, U.rtrt _ lt.1, U.rtrt _ lt.2⟩
    · rw [← a, ← b]; exact ⟨U.rtlt _ lt.2, U.rtlt _ lt.1, U.rtrt _ lt.2, U.rtrt _ lt.1⟩
  obtain ⟨hiN, loN, rhi, rlo⟩ := hp
  have lh := U.ldc hi hiN
  have ll := U.ldc lo loN
  rw [rhi] at lh
  rw [rlo] at ll
  have np := UF.pos U loN ((U.root lo loN).2 rlo)
  have due2 : ∀ r, Unif r P → (pt (ld hi)).sub r = (pt (ld lo)).sub r := fun r hr => by
    have e := U.tdue r hr pr (by simp)
    rcases hd with ⟨a, b⟩ | ⟨a, b⟩
    · rw [U.due r hr _ pr.1 lh.1 lt.1 (by rw [lh.2, a]), e, U.due r hr pr.2 _ lt.2 ll.1 (by rw [ll.2, b])]
    · rw [U.due r hr _ pr.2 lh.1 lt.2 (by rw [lh.2, b]), ← e, U.due r hr pr.1 _ lt.1 ll.1 (by rw [ll.2, a])]
  unfold rest16
  refine wSs_c ?_
  simp only [wS, wE, wEs, wPs, kysOf, D.ky, wO, wT, wI, Op2.sem, Bi.sem, okS, okB, En.px, List.getElem?_cons_zero, List.getElem?_cons_succ, List.set_cons_zero, List.set_cons_succ, List.map_cons, List.map_nil, List.cons_append, List.nil_append, List.append_nil, Bool.false_eq_true, if_true, if_false, reduceIte]
  rw [M.c3]
  dsimp only [nD]
  rw [fnD_len, ixN_n loN]
  dsimp only
  have e1 : (fnD N fun i => nD (tp i)).set lo (.int (hi : Int)) = fnD N fun i => nD (uq1 tp lo hi i) := fnD_up
  dsimp only [nD] at e1
  rw [e1]
  have m1 : MgI h (h'.set h.length (.lst (fnD N fun i => nD (uq1 tp lo hi i)))) N (uq1 tp lo hi) ld wg td := ⟨pre_set M.pre (Nat.le_refl _), set_self M.c3, set_at M.c4 (by omega), set_at M.c5 (by omega), set_at M.c6 (by omega)⟩
  dsimp only [nD] at m1
  revert m1
  generalize h'.set h.length (.lst (fnD N fun i => D.int ((uq1 tp lo hi i : Nat) : Int))) = h1
  intro m1
  refine wSs_c ?_
  simp only [wS, wE, wEs, wPs, kysOf, D.ky, wO, wT, wI, Op2.sem, Bi.sem, okS, okB, En.px, List.getElem?_cons_zero, List.getElem?_cons_succ, List.set_cons_zero, List.set_cons_succ, List.map_cons, List.map_nil, List.cons_append, List.nil_append, List.append_nil, Bool.false_eq_true, if_true, if_false, reduceIte]
  rw [show D.int (hi : Int) = nD hi from rfl, show D.int (lo : Int) = nD lo from rfl]
  rw [ixS_fn m1.c5 hiN]
  dsimp only
  rw [ixS_fn m1.c5 loN]
  dsimp only
  rw [addS_n]
  dsimp only
  rw [m1.c5]
  dsimp only
  rw [show nD hi = D.int (hi : Int) from rfl]
  try dsimp only
  rw [fnD_len, ixN_n hiN]
  dsimp only
  rw [fnD_up]
  have m2 : MgI h (h1.set (h.length + 3) (.lst (fnD N fun i => nD (uq1 wg hi (wg hi + wg lo) i)))) N (uq1 tp lo hi) ld (uq1 wg hi (wg hi + wg lo)) td := ⟨pre_set m1.pre (by omega), set_at m1.c3 (by omega), set_at m1.c4 (by omega), set_self m1.c5, set_at m1.c6 (by omega)⟩
  revert m2
  generalize h1.set (h.length + 3) (.lst (fnD N fun i => nD (uq1 wg hi (wg hi + wg lo) i))) = h2
  generalize uq1 wg hi (wg hi + wg lo) = wg2
  intro m2
  refine wSs_c ?_
  simp only [wS, wE, wEs, wPs, kysOf, D.ky, wO, wT, wI, Op2.sem, Bi.sem, okS, okB, En.px, List.getElem?_cons_zero, List.getElem?_cons_succ, List.set_cons_zero, List.set_cons_succ, List.map_cons, List.map_nil, List.cons_append, List.nil_append, List.append_nil, Bool.false_eq_true, if_true, if_false, reduceIte]
  rw [show D.int (hi : Int) = nD hi from rfl]
  rw [ixS_fn m2.c4 hiN]
  dsimp only
  rw [ixS_fn m2.c4 loN]
  dsimp only
  refine wSs_c ?_
  simp only [wS, wE, wEs, wPs, kysOf, D.ky, wO, wT, wI, Op2.sem, Bi.sem, okS, okB, En.px, List.getElem?_cons_zero, List.getElem?_cons_succ, List.set_cons_zero, List.set_cons_succ, List.map_cons, List.map_nil, List.cons_append, List.nil_append, List.append_nil, Bool.false_eq_true, if_true, if_false, reduceIte]
  have RP2 := RP.ext m2.pre
  rw [ixS_fn RP2.cp lh.1]
  dsimp only
  rw [isi_dT]
  simp only [truD_b]
  cases eh : pt (ld hi) with
  | v x =>
    simp only [isV, if_true]
    refine wSs_c ?_
    simp only [wS, wE, wEs, wPs, kysOf, D.ky, wO, wT, wI, Op2.sem, Bi.sem, okS, okB, En.px, List.getElem?_cons_zero, List.getElem?_cons_succ, List.set_cons_zero, List.set_cons_succ, List.map_cons, List.map_nil, List.cons_append, List.nil_append, List.append_nil, Bool.false_eq_true, if_true, if_false, reduceIte]
    rw [m2.c4]
    dsimp only
    rw [show nD hi = D.int (hi : Int) from rfl]
    dsimp only
    rw [fnD_len, ixN_n hiN]
    dsimp only
    rw [fnD_up]
    have U2 := U.union R hd ne (L := ld lo) (nw := []) (.inr ⟨rfl, x, eh⟩) (fun q h => by cases h) (fun r hr q h => by cases h) (fun n ts m us e => by rw [eh] at e; cases e)
    rw [List.append_nil] at U2
    refine wSs_n (wSs_n (Z := Z) (C := WPc Z B (j + 1)) ?_)
    refine hn (uq1 tp lo hi) (uq1 ld hi (ld lo)) _ _ wg2 td (nr - 1) _ _ _ ⟨pre_set m2.pre (by omega), set_at m2.c3 (by omega), set_self m2.c4, set_at m2.c5 (by omega), set_at m2.c6 (by omega)⟩ U2 (by omega)
  | a n ts =>
    simp only [isV, Bool.false_eq_true, if_false]
    refine wSs_c ?_
    simp only [wS, wE, wEs, wPs, kysOf, D.ky, wO, wT, wI, Op2.sem, Bi.sem, okS, okB, En.px, List.getElem?_cons_zero, List.getElem?_cons_succ, List.set_cons_zero, List.set_cons_succ, List.map_cons, List.map_nil, List.cons_append, List.nil_append, List.append_nil, Bool.false_eq_true, if_true, if_false, reduceIte]
    rw [ixS_fn RP2.cp ll.1]
    dsimp only
    rw [isi_dT]
    simp only [truD_b]
    cases el : pt (ld lo) with
    | v x =>
      simp only [isV, Bool.not_true, Bool.false_eq_true, if_false]
      have U2 := U.union R hd ne (L := ld hi) (nw := []) (.inl ⟨rfl, .inr ⟨x, el⟩⟩) (fun q h => by cases h) (fun r hr q h => by cases h) (fun n ts m us e e' => by rw [el] at e'; cases e')
      rw [List.append_nil, uq1_id] at U2
      refine wSs_n (wSs_n (Z := Z) (C := WPc Z B (j + 1)) (wSs_n (Z := Z) (C := WPc Z B (j + 1)) ?_))
      exact hn (uq1 tp lo hi) ld _ _ wg2 td (nr - 1) _ _ _ m2 U2 (by omega)
    | a m us =>
      simp only [isV, Bool.not_false, if_true]
      refine wSs_c ?_
      simp only [wS, wE, wEs, wPs, kysOf, D.ky, wO, wT, wI, Op2.sem, Bi.sem, okS, okB, En.px, List.getElem?_cons_zero, List.getElem?_cons_succ, List.set_cons_zero, List.set_cons_succ, List.map_cons, List.map_nil, List.cons_append, List.nil_append, List.append_nil, Bool.false_eq_true, if_true, if_false, reduceIte]
      rw [ixS_fn RP2.cp lh.1]
      dsimp only
      rw [ixS_fn RP2.cp ll.1]
      dsimp only
      rw [eh, el]
      refine canOne_w hU ?_
      simp only [truD_b]
      by_cases c : n = m ∧ ts.length = us.length
      · rw [decide_eq_true c]
        simp only [Bool.not_true, Bool.false_eq_true, if_false]
        refine wSs_n (wSs_c ?_)
        simp only [wS, wE, wEs, wPs, kysOf, D.ky, wO, wT, wI, Op2.sem, Bi.sem, okS, okB, En.px, List.getElem?_cons_zero, List.getElem?_cons_succ, List.set_cons_zero, List.set_cons_succ, List.map_cons, List.map_nil, List.cons_append, List.nil_append, List.append_nil, Bool.false_eq_true, if_true, if_false, reduceIte]
        rw [recT_lst m2.c6]
        refine ⟨rfl, ?_⟩
        rw [ixS_fn RP2.cq lh.1]
        dsimp only
        rw [ixS_fn RP2.cq ll.1]
        dsimp only
        have l1 := vi _ lh.1
        have l2 := vi _ ll.1
        rw [eh] at l1
        rw [el] at l2
        have le : (inr (ld hi)).length = (inr (ld lo)).length := by
          have q := c.2
          simp only [subT] at l1 l2
          omega
        rw [lzip_ref (RP2.ci _ lh.1) (RP2.ci _ ll.1) (by rw [List.length_map, List.length_map]; exact le), zipD_map]
        dsimp only
        have a4 := ar _ lh.1
        have zl : ((inr (ld hi)).zip (inr (ld lo))).length ≤ 4 := by rw [List.length_zip]; omega
        rw [extend_at (pre_at (pre_snoc (List.prefix_refl _)) m2.c6) new_at (by simp only [List.length_map]; omega)]
        dsimp only
        have e5 : ∀ r, Unif r P → ∀ (i a b : Nat), (inr (ld hi))[i]? = some a → (inr (ld lo))[i]? = some b → (pt a).sub r = (pt b).sub r := fun r hr i a b q1 q2 => by
          have e := due2 r hr
          rw [eh, el, sub_a, sub_a] at e
          injection e with _ e
          have w1 := (R.inn _ lh.1 n ts eh).1
          have w2 := (R.inn _ ll.1 m us el).1
          rw [← w1, ← w2, List.map_map, List.map_map] at e
          have e6 := congrArg (fun l => l[i]?) e
          rw [List.getElem?_map, List.getElem?_map, q1, q2] at e6
          exact Option.some.inj e6
        have U2 := U.union R hd ne (L := ld hi) (nw := (inr (ld hi)).zip (inr (ld lo))) (.inl ⟨rfl, .inl ⟨n, ts, eh⟩⟩) (fun q hq => ?_) (fun r hr q hq => ?_) (fun n' ts' m' us' q1 q2 => ?_)
        · rw [uq1_id] at U2
          refine wSs_n (wSs_n (Z := Z) (C := WPc Z B (j + 1)) (wSs_n (Z := Z) (C := WPc Z B (j + 1)) ?_))
          refine hn (uq1 tp lo hi) ld _ _ wg2 (td ++ (inr (ld hi)).zip (inr (ld lo))) (nr - 1) _ _ _ ?_ U2 (by rw [List.length_append]; omega)
          have px : h2 <+: h2 ++ [O.lst (((inr (ld hi)).zip (inr (ld lo))).map qD)] := pre_snoc (List.prefix_refl _)
          refine ⟨pre_set (m2.pre.trans px) (by omega), set_at (pre_at px m2.c3) (by omega), set_at (pre_at px m2.c4) (by omega), set_at (pre_at px m2.c5) (by omega), ?_⟩
          rw [List.map_append]
          exact set_self (pre_at px m2.c6)
        · have := List.of_mem_zip (a := q.1) (b := q.2) hq
          exact ⟨(R.inn _ lh.1 n ts eh).2 _ this.1, (R.inn _ ll.1 m us el).2 _ this.2⟩
        · obtain ⟨i, hi'⟩ := List.getElem?_of_mem hq
          rw [List.getElem?_zip_eq_some] at hi'
          exact e5 r hr i _ _ hi'.1 hi'.2
        · rw [eh] at q1
          rw [el] at q2
          cases q1; cases q2
          refine ⟨c.1, le, fun k a b w1 w2 => ?_⟩
          have : ((inr (ld hi)).zip (inr (ld lo)))[k]? = some (a, b) := List.getElem?_zip_eq_some.mpr ⟨w1, w2⟩
          exact List.mem_of_getElem? this
      · rw [decide_eq_false c]
        simp only [Bool.not_false, if_true]
        refine wSs_c ?_
        simp only [wS, wE, wEs, wPs, kysOf, D.ky, wO, wT, wI, Op2.sem, Bi.sem, okS, okB, En.px, List.getElem?_cons_zero, List.getElem?_cons_succ, List.set_cons_zero, List.set_cons_succ, List.map_cons, List.map_nil, List.cons_append, List.nil_append, List.append_nil, Bool.false_eq_true, if_true, if_false, reduceIte]
        exact hret (U.apart R hd eh el c) _ m2.pre
end
end Mi

set_option Elab.async false
set_option linter.all false
set_option maxRecDepth 100000
set_option maxHeartbeats 4000000
/-! unifying: _merged, the whole -/
namespace Mi
open PySem PySem.Spec PyProof.Rows L2 Un
theorem rep_fn : ∀ {N : Nat}, (List.replicate N [D.int 1]).flatten = fnD N fun _ => nD 1
  | 0 => rfl
  | N + 1 => by
    rw [List.replicate_succ', List.flatten_append, rep_fn, ← fnD_snoc (f := fun _ => nD 1) (v := nD 1) |>.trans (fnD_congr fun i _ => by split <;> rfl)]
    rfl
theorem listS_ref {h : Hh} {c : Nat} {xs : List D} (e : h[c]? = some (.lst xs)) : listS h [.ref c] = some (.ref h.length, h ++ [.lst xs]) := by
  unfold listS
  dsimp only
  rw [asK_of (asL_at e), asL_at e]; rfl
section
variable {Z : Zi} {B : List Fd} (hU : HasU B)
variable {P : Uprs} {N : Nat} {pt : Nat → Tx} {inr : Nat → List Nat} {ia : Nat → Nat} {sm : List (Nat × Nat)}
include hU
theorem merged_w {j p q c : Nat} {h : Hh} {Q : PQ} {Qx : PX} (R : Prt P N pt inr) (RP : Parts h p q N pt ia inr) (ar : ∀ i, i < N → (inr i).length ≤ 4) (vi : ∀ i, i < N → (inr i).length = (subT (pt i)).length) (hN : N ≤ 100000)
    (es : h[c]? = some (.lst (sm.map qD))) (hs : sm.length ≤ 300000) (s1 : ∀ p ∈ sm, p.1 < N ∧ p.2 < N) (s2 : ∀ r, Unif r P → ∀ p ∈ sm, (pt p.1).sub r = (pt p.2).sub r)
    (k1 : (¬ ∃ r, Unif r P) → ∀ h', h <+: h' → Q .non h') (k2 : ∀ tp ld rt dp nr l h', h <+: h' → UF P N pt inr sm tp ld rt dp [] nr → h'[l]? = some (.lst (fnD N fun i => nD (ld (rt i)))) → Q (.ref l) h') : WPc Z B (j + 2) 16 [.ref p, .ref q, .ref c] h Q Qx := by
  unfold WPc
  rw [hU 16 _ rfl]
  refine ⟨rfl, ?_⟩
  show wSs Z _ Uf.b16.body _ [some (.ref p), some (.ref q), some (.ref c), none, none, none, none, none, none, none, none, none] h
  unfold Uf.b16
  have lr : ∀ h : Hh, lrngS h [nD N] = some (.ref h.length, h ++ [.lst (fnD N fun i => nD (id i))]) := fun h => by
    have : lrngS h [.int (N : Int)] = some (.ref h.length, h ++ [.lst (rangeD 0 (N : Int).toNat)]) := if_pos (by omega)
    rw [Int.toNat_natCast, fnD_range] at this
    exact this
  refine wSs_c ?_
  simp only [wS, wE, wEs, wPs, kysOf, D.ky, wO, wT, wI, Op2.sem, Bi.sem, okS, okB, En.px, List.getElem?_cons_zero, List.getElem?_cons_succ, List.set_cons_zero, List.set_cons_succ, List.map_cons, List.map_nil, List.cons_append, List.nil_append, List.append_nil, Bool.false_eq_true, if_true, if_false, reduceIte]
  rw [lenS_fn RP.cp]
  dsimp only
  rw [lr]
  refine wG_n ?_
  have q1 : h <+: h ++ [O.lst (fnD N fun i => nD (id i))] := pre_snoc (List.prefix_refl _)
  refine wSs_c ?_
  simp only [wS, wE, wEs, wPs, kysOf, D.ky, wO, wT, wI, Op2.sem, Bi.sem, okS, okB, En.px, List.getElem?_cons_zero, List.getElem?_cons_succ, List.set_cons_zero, List.set_cons_succ, List.map_cons, List.map_nil, List.cons_append, List.nil_append, List.append_nil, Bool.false_eq_true, if_true, if_false, reduceIte]
  rw [lenS_fn (pre_at q1 RP.cp)]
  dsimp only
  rw [lr]
  refine wG_n ?_
  have q2 := pre_snoc q1 (o := O.lst (fnD N fun i => nD (id i)))
  refine wSs_c ?_
  simp only [wS, wE, wEs, wPs, kysOf, D.ky, wO, wT, wI, Op2.sem, Bi.sem, okS, okB, En.px, List.getElem?_cons_zero, List.getElem?_cons_succ, List.set_cons_zero, List.set_cons_succ, List.map_cons, List.map_nil, List.cons_append, List.nil_append, List.append_nil, Bool.false_eq_true, if_true, if_false, reduceIte]
  refine ⟨by rw [sizeLine_eq]; simp, ?_⟩
  have q3 := pre_snoc q2 (o := O.lst [D.int 1])
  rw [lenS_fn (pre_at q3 RP.cp)]
  dsimp only
  have mu : ∀ h1 : Hh, mulS (h1 ++ [O.lst [D.int 1]]) (.ref h1.length) (nD N) = some (.ref (h1.length + 1), h1 ++ [O.lst [D.int 1]] ++ [.lst (fnD N fun _ => nD 1)]) := fun h1 => by
    show mulS (h1 ++ [O.lst [D.int 1]]) (.ref h1.length) (.int (N : Int)) = _
    unfold mulS
    dsimp only
    rw [new_at]
    dsimp only
    rw [if_pos (by rw [sizeLine_eq]; simp only [List.length_cons, List.length_nil]; omega), Int.toNat_natCast, rep_fn, List.length_append]
    rfl
  rw [mu]
  refine wG_n ?_
  have q4 := pre_snoc q3 (o := O.lst (fnD N fun _ => nD 1))
  refine wSs_c ?_
  simp only [wS, wE, wEs, wPs, kysOf, D.ky, wO, wT, wI, Op2.sem, Bi.sem, okS, okB, En.px, List.getElem?_cons_zero, List.getElem?_cons_succ, List.set_cons_zero, List.set_cons_succ, List.map_cons, List.map_nil, List.cons_append, List.nil_append, List.append_nil, Bool.false_eq_true, if_true, if_false, reduceIte]
  rw [listS_ref (pre_at q4 es)]
  refine wG_n ?_
  simp only [List.set_cons_succ, List.set_cons_zero, List.length_append, List.length_cons, List.length_nil, Nat.zero_add]
  have eh : h ++ [O.lst (fnD N fun i => nD (id i))] ++ [O.lst (fnD N fun i => nD (id i))] ++ [O.lst [D.int 1]] ++ [O.lst (fnD N fun _ => nD 1)] ++ [O.lst (sm.map qD)] = h ++ [O.lst (fnD N fun i => nD (id i)), O.lst (fnD N fun i => nD (id i)), O.lst [D.int 1], O.lst (fnD N fun _ => nD 1), O.lst (sm.map qD)] := by simp
  rw [eh]
  have g : ∀ i, (h ++ [O.lst (fnD N fun i => nD (id i)), O.lst (fnD N fun i => nD (id i)), O.lst [D.int 1], O.lst (fnD N fun _ => nD 1), O.lst (sm.map qD)])[h.length + i]? = [O.lst (fnD N fun i => nD (id i)), O.lst (fnD N fun i => nD (id i)), O.lst [D.int 1], O.lst (fnD N fun _ => nD 1), O.lst (sm.map qD)][i]? := fun i => by rw [List.getElem?_append_right (by omega), Nat.add_sub_cancel_left]
  have M0 : MgI h _ N id id (fun _ => 1) sm := ⟨⟨_, rfl⟩, g 0, g 1, g 3, g 4⟩
  have U0 := UF.init R s1 s2
  refine wSs_c ?_
  simp only [wS]
  refine ⟨fun m τ h' => ∃ tp ld rt dp wg td nr v7 v8 v9 v10 v11, MgI h h' N tp ld wg td ∧ UF P N pt inr sm tp ld rt dp td nr ∧ 5 * nr + td.length = m ∧ m ≤ 900000 ∧ τ = [some (.ref p), some (.ref q), some (.ref c), some (.ref h.length), some (.ref (h.length + 1)), some (.ref (h.length + 3)), some (.ref (h.length + 4)), v7, v8, v9, v10, v11],
    ⟨_, id, id, id, fun _ => 0, fun _ => 1, sm, N, none, none, none, none, none, M0, U0, rfl, by omega, rfl⟩, ?_⟩
  rintro m τ h' ⟨tp, ld, rt, dp, wg, td, nr, v7, v8, v9, v10, v11, M, U, hm, hm2, rfl⟩
  simp only [wS, wE, wEs, wPs, kysOf, D.ky, wO, wT, wI, Op2.sem, Bi.sem, okS, okB, En.px, List.getElem?_cons_zero, List.getElem?_cons_succ, List.set_cons_zero, List.set_cons_succ, List.map_cons, List.map_nil, List.cons_append, List.nil_append, List.append_nil, Bool.false_eq_true, if_true, if_false, reduceIte]
  rw [tru_lst M.c6]
  dsimp only
  rcases snoc_or td with rfl | ⟨td, pr, rfl⟩
  · simp only [List.map_nil, List.isEmpty_nil, Bool.not_true, Bool.false_eq_true, if_false]
    refine wSs_c ?_
    simp only [wS, wE, wEs, wPs, kysOf, D.ky, wO, wT, wI, Op2.sem, Bi.sem, okS, okB, En.px, List.getElem?_cons_zero, List.getElem?_cons_succ, List.set_cons_zero, List.set_cons_succ, List.map_cons, List.map_nil, List.cons_append, List.nil_append, List.append_nil, Bool.false_eq_true, if_true, if_false, reduceIte]
    simp only [lk_r1]
    have RP2 := RP.ext M.pre
    rw [lenS_fn RP2.cp]
    dsimp only [nD]
    refine ⟨by omega, ?_⟩
    rw [Int.toNat_natCast]
    have er : rangeD 0 N = (List.range N).map nD := fnD_range
    rw [er]
    refine wAcc_m (l := List.range N) nD (fun i => nD (ld (rt i))) (fun _ _ => trivial) (fun i hi q' sk h2 p2 hq => ?_) (by simp; omega) fun h2 p2 e2 => ?_
    · have hi : i < N := List.mem_range.mp hi
      simp only [wipeA, List.set_cons_succ, List.set_cons_zero]
      refine wG_n ?_
      simp only [wS, wE, wEs, wPs, kysOf, D.ky, wO, wT, wI, Op2.sem, Bi.sem, okS, okB, En.px, List.getElem?_cons_zero, List.getElem?_cons_succ, List.set_cons_zero, List.set_cons_succ, List.map_cons, List.map_nil, List.cons_append, List.nil_append, List.append_nil, Bool.false_eq_true, if_true, if_false, reduceIte]
      refine top_w hU (pre_at p2 M.c3) hi U.tlt U.up U.root U.dep ?_
      rw [ixS_fn (pre_at p2 M.c4) (U.rtlt i hi)]
      exact hq _ (List.prefix_refl _)
    · exact k2 tp ld rt dp nr _ h2 (M.pre.trans p2) U e2
  · rw [if_pos (by simp)]
    have c6 := M.c6
    rw [List.map_append, List.map_cons, List.map_nil] at c6
    rw [List.length_append, List.length_cons, List.length_nil] at hm
    have lt := U.tdlt pr (by simp)
    refine wSs_c ?_
    simp only [wS, wE, wEs, wPs, kysOf, D.ky, wO, wT, wI, Op2.sem, Bi.sem, okS, okB, En.px, List.getElem?_cons_zero, List.getElem?_cons_succ, List.set_cons_zero, List.set_cons_succ, List.map_cons, List.map_nil, List.cons_append, List.nil_append, List.append_nil, Bool.false_eq_true, if_true, if_false, reduceIte]
    rw [recT_lst c6]
    refine ⟨rfl, ?_⟩
    rw [pop_at c6]
    refine wG_2 ?_
    simp only [List.set_cons_succ, List.set_cons_zero]
    have M1 : MgI h (h'.set (h.length + 4) (.lst (td.map qD))) N tp ld wg td := ⟨pre_set M.pre (by omega), set_at M.c3 (by omega), set_at M.c4 (by omega), set_at M.c5 (by omega), set_self c6⟩
    revert M1
    generalize h'.set (h.length + 4) (.lst (td.map qD)) = h1
    intro M1
    refine wSs_c ?_
    simp only [wS, wE, wEs, wPs, kysOf, D.ky, wO, wT, wI, Op2.sem, Bi.sem, okS, okB, En.px, List.getElem?_cons_zero, List.getElem?_cons_succ, List.set_cons_zero, List.set_cons_succ, List.map_cons, List.map_nil, List.cons_append, List.nil_append, List.append_nil, Bool.false_eq_true, if_true, if_false, reduceIte]
    refine top_w hU M1.c3 lt.1 U.tlt U.up U.root U.dep ?_
    refine top_w hU M1.c3 lt.2 U.tlt U.up U.root U.dep ?_
    refine wSs_c ?_
    simp only [wS, wE, wEs, wPs, kysOf, D.ky, wO, wT, wI, Op2.sem, Bi.sem, okS, okB, En.px, List.getElem?_cons_zero, List.getElem?_cons_succ, List.set_cons_zero, List.set_cons_succ, List.map_cons, List.map_nil, List.cons_append, List.nil_append, List.append_nil, Bool.false_eq_true, if_true, if_false, reduceIte]
    rw [show eqS h1 (nD (rt pr.1)) (nD (rt pr.2)) = some (.bl (decide (rt pr.1 = rt pr.2)), h1) from by rw [← nD_beq]; rfl]
    simp only [truD_b]
    by_cases ce : rt pr.1 = rt pr.2
    · rw [decide_eq_true ce, if_pos rfl]
      refine wSs_c ?_
      simp only [wS, wE, wEs, wPs, kysOf, D.ky, wO, wT, wI, Op2.sem, Bi.sem, okS, okB, En.px, List.getElem?_cons_zero, List.getElem?_cons_succ, List.set_cons_zero, List.set_cons_succ, List.map_cons, List.map_nil, List.cons_append, List.nil_append, List.append_nil, Bool.false_eq_true, if_true, if_false, reduceIte]
      exact ⟨5 * nr + td.length, by omega, tp, ld, rt, dp, wg, td, nr, _, _, _, _, _, M1, U.same ce, rfl, by omega, rfl⟩
    · rw [decide_eq_false ce, if_neg (by decide)]
      refine wSs_n (wSs_c ?_)
      simp only [wS, wE, wEs, wPs, kysOf, D.ky, wO, wT, wI, Op2.sem, Bi.sem, okS, okB, En.px, List.getElem?_cons_zero, List.getElem?_cons_succ, List.set_cons_zero, List.set_cons_succ, List.map_cons, List.map_nil, List.cons_append, List.nil_append, List.append_nil, Bool.false_eq_true, if_true, if_false, reduceIte]
      rw [ixS_fn M1.c5 (U.rtlt _ lt.1)]
      dsimp only
      rw [ixS_fn M1.c5 (U.rtlt _ lt.2)]
      dsimp only
      rw [show ltS h1 (nD (wg (rt pr.1))) (nD (wg (rt pr.2))) = some (.bl (decide ((wg (rt pr.1) : Int) < (wg (rt pr.2) : Int))), h1) from rfl]
      simp only [truD_b]
      by_cases cw : ((wg (rt pr.1) : Int) < (wg (rt pr.2) : Int))
      · rw [decide_eq_true cw, if_pos rfl]
        refine wSs_c ?_
        simp only [wS, wE, wEs, wPs, kysOf, D.ky, wO, wT, wI, Op2.sem, Bi.sem, okS, okB, En.px, List.getElem?_cons_zero, List.getElem?_cons_succ, List.set_cons_zero, List.set_cons_succ, List.map_cons, List.map_nil, List.cons_append, List.nil_append, List.append_nil, Bool.false_eq_true, if_true, if_false, reduceIte]
        refine wSs_n ?_
        refine tail16 hU R (RP.ext (List.prefix_refl _)) ar vi U (.inr ⟨rfl, rfl⟩) (fun e => ce e.symm) M1 (by omega) (fun w h2 p2 => k1 w h2 p2) ?_
        intro tp' ld' rt' dp' wg' td' nr' h2 v7 v8 M2 U2 hlt
        refine ⟨5 * nr' + td'.length, by omega, tp', ld', rt', dp', wg', td', nr', _, _, _, _, _, M2, U2, rfl, by omega, rfl⟩
      · rw [decide_eq_false cw, if_neg (by decide)]
        refine wSs_n ?_
        refine tail16 hU R (RP.ext (List.prefix_refl _)) ar vi U (.inl ⟨rfl, rfl⟩) ce M1 (by omega) (fun w h2 p2 => k1 w h2 p2) ?_
        intro tp' ld' rt' dp' wg' td' nr' h2 v7 v8 M2 U2 hlt
        refine ⟨5 * nr' + td'.length, by omega, tp', ld', rt', dp', wg', td', nr', _, _, _, _, _, M2, U2, rfl, by omega, rfl⟩
end
end Mi

set_option Elab.async false
set_option linter.all false
set_option maxRecDepth 100000
set_option maxHeartbeats 4000000
/-! unifying: dicts of numbers; _classes -/
namespace Mi
open PySem PySem.Spec PyProof.Rows L2 Un
/-- a dict of numbers -/
def nK (ks : List Nat) (f : Nat → D) : List (Ky × D) := ks.map fun (l : Nat) => (Ky.i (l : Int), f l)
def upD (f : Nat → D) (k : Nat) (v : D) : Nat → D := fun i => if i = k then v else f i
theorem upD_same {f : Nat → D} {k : Nat} {v : D} : upD f k v k = v := if_pos rfl
theorem upD_ne {f : Nat → D} {k i : Nat} {v : D} (h : i ≠ k) : upD f k v i = f i := if_neg h
theorem kyi_inj {a b : Nat} : (Ky.i (a : Int) = Ky.i (b : Int)) ↔ a = b := ⟨fun e => by injection e with e; omega, fun e => by rw [e]⟩
theorem getKd_nK : ∀ {ks : List Nat} {f : Nat → D} {l : Nat}, getKd (nK ks f) (.i (l : Int)) = if l ∈ ks then some (f l) else none
  | [], f, l => rfl
  | k :: ks, f, l => by
    show getKd ((Ky.i (k : Int), f k) :: nK ks f) _ = _
    unfold getKd
    by_cases c : k = l
    · subst c
      rw [if_pos rfl, if_pos List.mem_cons_self]
    · rw [if_neg (fun e => c (kyi_inj.mp e)), getKd_nK]
      by_cases c2 : l ∈ ks
      · rw [if_pos c2, if_pos (List.mem_cons_of_mem _ c2)]
      · rw [if_neg c2, if_neg (fun e => (List.mem_cons.mp e).elim (fun e => c e.symm) c2)]
theorem repKd_nK : ∀ {ks : List Nat} {f : Nat → D} {l : Nat} {d : D}, repKd (nK ks f) (.i (l : Int)) d = nK ks (upD f l d)
  | [], f, l, d => rfl
  | k :: ks, f, l, d => by
    show repKd ((Ky.i (k : Int), f k) :: nK ks f) _ _ = (Ky.i (k : Int), upD f l d k) :: nK ks (upD f l d)
    unfold repKd
    rw [repKd_nK]
    congr 1
    by_cases c : k = l
    · subst c; rw [if_pos rfl, upD_same]
    · rw [if_neg (fun e => c (kyi_inj.mp e)), upD_ne c]
theorem putKd_nK {ks : List Nat} {f : Nat → D} {l : Nat} {d : D} : putKd (nK ks f) (.i (l : Int)) d = nK (if l ∈ ks then ks else ks ++ [l]) (upD f l d) := by
  unfold putKd
  rw [getKd_nK]
  by_cases c : l ∈ ks
  · rw [if_pos c, if_pos (by rfl), if_pos c, repKd_nK]
  · rw [if_neg c, if_neg (by decide), if_neg c]
    unfold nK
    rw [List.map_append, List.map_cons, List.map_nil, upD_same]
    congr 1
    refine List.map_congr_left fun k hk => ?_
    rw [upD_ne (fun (e : k = l) => c (by rw [← e]; exact hk))]
theorem nK_len {ks : List Nat} {f : Nat → D} : (nK ks f).length = ks.length := by unfold nK; rw [List.length_map]
theorem get_num {h : Hh} {i l : Nat} {lk : Bool} {ks : List Nat} {f : Nat → D} {x : D} (e : h[i]? = some (.dct lk (nK ks f))) : mtS .get .dct h [.ref i, nD l, x] = some (if l ∈ ks then f l else x, h) := by
  have ek : asK h (.ref i) = some (nK ks f) := by simp only [asK, e]
  unfold mtS
  dsimp only [nD]
  rw [ek, Option.bind_some]
  dsimp only [D.ky]
  rw [Option.map_some, getKd_nK]
  split <;> rfl
theorem ixS_num {h : Hh} {i l : Nat} {lk : Bool} {ks : List Nat} {f : Nat → D} (e : h[i]? = some (.dct lk (nK ks f))) (hl : l ∈ ks) : ixS h (.ref i) (nD l) = some (f l, h) := ixS_dct e (k := .i (l : Int)) rfl (by rw [getKd_nK, if_pos hl])
/-- what a class is -/
def ClsV (h' : Hh) (N : Nat) (pt : Nat → Tx) (inr : Nat → List Nat) (L : Nat → Nat) (lo i l : Nat) (d : D) : Prop := match pt l with
  | .v _ => ∃ z, d = .str z ∧ (∃ i', i' < i ∧ L i' = l ∧ pt i' = .v z) ∧ ∀ i' y, i' < i → L i' = l → pt i' = .v y → z ≤ y
  | .a n _ => ∃ r, d = .tup [.str n, .ref r] ∧ lo < r ∧ h'[r]? = some (O.lst ((inr l).map fun j => nD (L j)))
theorem ClsV.ext {h' h'' : Hh} {N : Nat} {pt : Nat → Tx} {inr : Nat → List Nat} {L : Nat → Nat} {lo i l : Nat} {d : D} (c : ClsV h' N pt inr L lo i l d) (e : h' <+: h'') : ClsV h'' N pt inr L lo i l d := by
  unfold ClsV at *
  cases hp : pt l with
  | v x => rw [hp] at c; exact c
  | a n us =>
    rw [hp] at c
    obtain ⟨r, a, b, c⟩ := c
    exact ⟨r, a, b, pre_at e c⟩
theorem ClsV.set {h' : Hh} {N : Nat} {pt : Nat → Tx} {inr : Nat → List Nat} {L : Nat → Nat} {lo i l : Nat} {d : D} {o : O} (c : ClsV h' N pt inr L lo i l d) : ClsV (h'.set lo o) N pt inr L lo i l d := by
  unfold ClsV at *
  cases hp : pt l with
  | v x => rw [hp] at c; exact c
  | a n us =>
    rw [hp] at c
    obtain ⟨r, a, b, c⟩ := c
    exact ⟨r, a, b, set_at c (by omega)⟩
theorem zip_fn {N : Nat} {f g : Nat → D} : zipD (fnD N f) (fnD N g) = (List.range N).map fun i => .tup [f i, g i] := by
  unfold zipD fnD
  apply List.ext_getElem?
  intro i
  rw [List.getElem?_zipWith, List.getElem?_map, List.getElem?_map, List.getElem?_map]
  by_cases hi : i < N
  · rw [List.getElem?_range hi]; rfl
  · rw [List.getElem?_eq_none (by simpa using hi)]; rfl
theorem min_str {h : Hh} {a b : List Nat} : min2S h [.str a, .str b] = some (.str (if b < a then b else a), h) := rfl
section
variable {Z : Zi} {B : List Fd} (hU : HasU B)
variable {P : Uprs} {N : Nat} {pt : Nat → Tx} {inr : Nat → List Nat} {ia : Nat → Nat} {L : Nat → Nat}
include hU
theorem classes_w {j p q c : Nat} {h : Hh} {Q : PQ} {Qx : PX} (C : Cls P N pt inr L) (RP : Parts h p q N pt ia inr) (ar : ∀ i, i < N → (inr i).length ≤ 4) (eL : h[c]? = some (.lst (fnD N fun i => nD (L i)))) (hN : N ≤ 100000)
    (k : ∀ ks f h', h <+: h' → h'[h.length]? = some (.dct false (nK ks f)) → ks.Nodup → (∀ l, l ∈ ks ↔ ∃ i, i < N ∧ L i = l) → (∀ l ∈ ks, ClsV h' N pt inr L h.length N l (f l)) → Q (.ref h.length) h') : WPc Z B (j + 1) 19 [.ref p, .ref q, .ref c] h Q Qx := by
  unfold WPc
  rw [hU 19 _ rfl]
  refine ⟨rfl, ?_⟩
  show wSs Z _ Uf.b19.body _ [some (.ref p), some (.ref q), some (.ref c), none, none, none, none] h
  unfold Uf.b19
  refine wSs_c ?_
  simp only [wS, wE, wEs, wPs, kysOf, D.ky, wO, wT, wI, Op2.sem, Bi.sem, okS, okB, En.px, List.getElem?_cons_zero, List.getElem?_cons_succ, List.set_cons_zero, List.set_cons_succ, List.map_cons, List.map_nil, List.cons_append, List.nil_append, List.append_nil, Bool.false_eq_true, if_true, if_false, reduceIte]
  refine ⟨by simp, new_at, wG_n ?_⟩
  simp only [List.set_cons_succ, List.set_cons_zero]
  rw [set_new, show mergeKd [] [] = nK [] (fun _ => .non) from rfl]
  have p0 : h <+: h ++ [.dct false (nK [] fun _ => .non)] := pre_snoc (List.prefix_refl _)
  refine wSs_c ?_
  simp only [wS, lk_zp]
  simp only [wS, wE, wEs, wPs, kysOf, D.ky, wO, wT, wI, Op2.sem, Bi.sem, okS, okB, En.px, List.getElem?_cons_zero, List.getElem?_cons_succ, List.set_cons_zero, List.set_cons_succ, List.map_cons, List.map_nil, List.cons_append, List.nil_append, List.append_nil, Bool.false_eq_true, if_true, if_false, reduceIte]
  rw [asL_at (pre_at p0 RP.cp), asL_at (pre_at p0 eL)]
  dsimp only
  rw [zip_fn]
  refine wItems_inv (fun i τ h' => ∃ (ks : List Nat) (f : Nat → D) (v4 v5 v6 : Option D), h <+: h' ∧ h'[h.length]? = some (.dct false (nK ks f)) ∧ ks.Nodup ∧ (∀ l, l ∈ ks ↔ ∃ i', i' < i ∧ L i' = l) ∧ (∀ l ∈ ks, ClsV h' N pt inr L h.length i l (f l)) ∧ ks.length ≤ i ∧ τ = [some (.ref p), some (.ref q), some (.ref c), some (.ref h.length), v4, v5, v6]) (fun i τ h' ⟨ks, f, v4, v5, v6, a, _⟩ => ⟨asL_at (pre_at a RP.cp), asL_at (pre_at a eL)⟩) ?_ ?_ ⟨[], _, none, none, none, p0, new_at, List.nodup_nil, fun l => ⟨fun q => (by cases q), fun ⟨_, a, _⟩ => (by omega)⟩, fun l q => (by cases q), Nat.zero_le _, rfl⟩
  · rintro i d τ h' kk ed ⟨ks, f, v4, v5, v6, pp, ek, nd, km, kv, kl, rfl⟩ hkk
    rw [List.getElem?_map] at ed
    obtain ⟨i', ei, rfl⟩ := Option.map_eq_some_iff.mp ed
    have hi : i < N := by simpa using (List.getElem?_eq_some_iff.mp ei).1
    rw [List.getElem?_range hi] at ei
    cases ei
    have RP2 := RP.ext pp
    have hl := C.lt i hi
    refine wG_2 ?_
    simp only [List.set_cons_succ, List.set_cons_zero]
    -- the keys behind this one
    have nd2 : (if L i ∈ ks then ks else ks ++ [L i]).Nodup := by
      split
      · exact nd
      · next hn => exact List.nodup_append.mpr ⟨nd, List.nodup_cons.mpr ⟨by simp, List.nodup_nil⟩, fun a ha b hb e => by rw [List.mem_singleton.mp hb] at e; exact hn (e ▸ ha)⟩
    have km2 : ∀ l, l ∈ (if L i ∈ ks then ks else ks ++ [L i]) ↔ ∃ i', i' < i + 1 ∧ L i' = l := fun l => by
      constructor
      · intro hm
        by_cases c : L i ∈ ks
        · rw [if_pos c] at hm
          obtain ⟨i', a, b⟩ := (km l).1 hm
          exact ⟨i', by omega, b⟩
        · rw [if_neg c] at hm
          rcases List.mem_append.mp hm with hm | hm
          · obtain ⟨i', a, b⟩ := (km l).1 hm
            exact ⟨i', by omega, b⟩
          · exact ⟨i, by omega, (List.mem_singleton.mp hm).symm⟩
      · rintro ⟨i', a, b⟩
        have : l ∈ ks ∨ l = L i := by
          by_cases c2 : i' = i
          · subst c2; exact .inr b.symm
          · exact .inl ((km l).2 ⟨i', by omega, b⟩)
        split
        · next c => rcases this with q | q
                    · exact q
                    · rw [q]; exact c
        · exact List.mem_append.mpr (this.imp id fun q => by rw [q]; exact List.mem_singleton_self _)
    have kl2 : (if L i ∈ ks then ks else ks ++ [L i]).length ≤ i + 1 := by
      split
      · omega
      · rw [List.length_append, List.length_cons, List.length_nil]; omega
    -- those of other keys
    have oth : ∀ (h2 : Hh) (dv : D), (∀ l ∈ ks, l ≠ L i → ClsV h2 N pt inr L h.length i l (f l)) → ClsV h2 N pt inr L h.length (i + 1) (L i) dv → ∀ l ∈ (if L i ∈ ks then ks else ks ++ [L i]), ClsV h2 N pt inr L h.length (i + 1) l (upD f (L i) dv l) := fun h2 dv a b l hm => by
      by_cases e : l = L i
      · subst e; rw [upD_same]; exact b
      · rw [upD_ne e]
        have hk : l ∈ ks := by
          by_cases c : L i ∈ ks
          · rw [if_pos c] at hm; exact hm
          · rw [if_neg c] at hm
            exact (List.mem_append.mp hm).resolve_right fun q => e (List.mem_singleton.mp q)
        have := a l hk e
        unfold ClsV at this ⊢
        cases hp : pt l with
        | a n us => rw [hp] at this; exact this
        | v x =>
          rw [hp] at this
          obtain ⟨z, e1, ⟨i', a1, a2, a3⟩, e3⟩ := this
          refine ⟨z, e1, ⟨i', by omega, a2, a3⟩, fun i'' y b1 b2 b3 => ?_⟩
          by_cases c2 : i'' = i
          · subst c2; exact absurd b2.symm e
          · exact e3 i'' y (by omega) b2 b3
    refine wSs_c ?_
    simp only [wS, wE, wEs, wPs, kysOf, D.ky, wO, wT, wI, Op2.sem, Bi.sem, okS, okB, En.px, List.getElem?_cons_zero, List.getElem?_cons_succ, List.set_cons_zero, List.set_cons_succ, List.map_cons, List.map_nil, List.cons_append, List.nil_append, List.append_nil, Bool.false_eq_true, if_true, if_false, reduceIte]
    rw [ixS_fn RP2.cp hl]
    dsimp only
    rw [isi_dT]
    simp only [truD_b]
    cases et : pt (L i) with
    | v x =>
      obtain ⟨y, ey⟩ := C.made i hi x et
      simp only [isV, if_true]
      refine wSs_c ?_
      simp only [wS, wE, wEs, wPs, kysOf, D.ky, wO, wT, wI, Op2.sem, Bi.sem, okS, okB, En.px, List.getElem?_cons_zero, List.getElem?_cons_succ, List.set_cons_zero, List.set_cons_succ, List.map_cons, List.map_nil, List.cons_append, List.nil_append, List.append_nil, Bool.false_eq_true, if_true, if_false, reduceIte]
      rw [recT_dct ek]
      refine ⟨rfl, ?_⟩
      rw [get_num ek]
      dsimp only
      -- the least one
      obtain ⟨z, ez, hz⟩ : ∃ z, min2S h' [dT (pt i), if L i ∈ ks then f (L i) else dT (pt i)] = some (.str z, h') ∧ ClsV h' N pt inr L h.length (i + 1) (L i) (.str z) := by
        rw [ey, dT_v]
        by_cases c : L i ∈ ks
        · rw [if_pos c]
          have := kv _ c
          unfold ClsV at this
          rw [et] at this
          obtain ⟨z, e1, ⟨i', a1, a2, a3⟩, e3⟩ := this
          rw [e1, min_str]
          refine ⟨_, rfl, ?_⟩
          unfold ClsV
          rw [et]
          refine ⟨_, rfl, ?_, fun i'' w b1 b2 b3 => ?_⟩
          · split
            · exact ⟨i', by omega, a2, a3⟩
            · exact ⟨i, by omega, rfl, ey⟩
          · by_cases c2 : i'' = i
            · subst c2
              rw [ey] at b3; cases b3
              split
              · next c3 => exact List.le_of_lt c3
              · exact List.le_refl _
            · have w1 := e3 i'' w (by omega) b2 b3
              split
              · exact w1
              · next c3 => exact List.le_trans (List.not_lt.mp c3) w1
        · rw [if_neg c, min_str]
          refine ⟨_, rfl, ?_⟩
          unfold ClsV
          rw [et]
          refine ⟨_, rfl, ⟨i, by omega, rfl, by split <;> exact ey⟩, fun i'' w b1 b2 b3 => ?_⟩
          by_cases c2 : i'' = i
          · subst c2
            rw [ey] at b3; cases b3
            split <;> exact List.le_refl _
          · exact absurd ((km (L i)).2 ⟨i'', by omega, b2⟩) c
      rw [ez]
      dsimp only
      rw [ek]
      dsimp only [nD, D.ky]
      refine ⟨by rw [sizeLine_eq, nK_len]; omega, ?_⟩
      rw [putKd_nK]
      exact wSs_n (wSs_n (Z := Z) (C := WPc Z B j) (hkk _ _ ⟨_, _, _, _, _, pre_set pp (Nat.le_refl _), set_self ek, nd2, km2, oth _ _ (fun l hk _ => (kv l hk).set) hz.set, kl2, rfl⟩))
    | a n us =>
      simp only [isV, Bool.false_eq_true, if_false]
      refine wSs_c ?_
      simp only [wS, wE, wEs, wPs, kysOf, D.ky, wO, wT, wI, Op2.sem, Bi.sem, okS, okB, En.px, List.getElem?_cons_zero, List.getElem?_cons_succ, List.set_cons_zero, List.set_cons_succ, List.map_cons, List.map_nil, List.cons_append, List.nil_append, List.append_nil, Bool.false_eq_true, if_true, if_false, reduceIte]
      rw [ixS_fn RP2.cp hl]
      dsimp only
      rw [et, ix0_dT]
      simp only [lk_of']
      rw [ixS_fn RP2.cq hl]
      dsimp only [srcD]
      rw [asL_at (RP2.ci _ hl)]
      dsimp only
      refine wAcc_m (l := inr (L i)) nD (fun jn => nD (L jn)) (fun h2 p2 => asL_at (pre_at p2 (RP2.ci _ hl))) (fun jn hj q' sk h2 p2 hq => ?_) (by have := ar _ hl; omega) fun h2 p2 e2 => ?_
      · simp only [wipeA, List.set_cons_succ, List.set_cons_zero]
        refine wG_n ?_
        simp only [wS, wE, wEs, wPs, kysOf, D.ky, wO, wT, wI, Op2.sem, Bi.sem, okS, okB, En.px, List.getElem?_cons_zero, List.getElem?_cons_succ, List.set_cons_zero, List.set_cons_succ, List.map_cons, List.map_nil, List.cons_append, List.nil_append, List.append_nil, Bool.false_eq_true, if_true, if_false, reduceIte]
        rw [ixS_fn (pre_at (pp.trans p2) eL) ((C.inn _ hl n us et).2 jn hj)]
        exact hq _ (List.prefix_refl _)
      · refine ⟨by rw [sizeLine_eq]; simp, ?_⟩
        rw [pre_at p2 ek]
        dsimp only [nD, D.ky]
        refine ⟨by rw [sizeLine_eq, nK_len]; omega, ?_⟩
        rw [putKd_nK]
        have hr : h.length < h'.length := at_lt ek
        have hz : ClsV h2 N pt inr L h.length (i + 1) (L i) (.tup [.str n, .ref h'.length]) := by
          unfold ClsV
          rw [et]
          exact ⟨_, rfl, hr, e2⟩
        exact wSs_n (wSs_n (Z := Z) (C := WPc Z B j) (hkk _ _ ⟨_, _, _, _, _, pre_set (pp.trans p2) (Nat.le_refl _), set_self (pre_at p2 ek), nd2, km2, oth _ _ (fun l hk _ => ((kv l hk).ext p2).set) hz.set, kl2, rfl⟩))
  · rintro τ h' ⟨ks, f, v4, v5, v6, pp, ek, nd, km, kv, kl, rfl⟩
    rw [List.length_map, List.length_range] at *
    refine wSs_c ?_
    simp only [wS, wE, wEs, wPs, kysOf, D.ky, wO, wT, wI, Op2.sem, Bi.sem, okS, okB, En.px, List.getElem?_cons_zero, List.getElem?_cons_succ, List.set_cons_zero, List.set_cons_succ, List.map_cons, List.map_nil, List.cons_append, List.nil_append, List.append_nil, Bool.false_eq_true, if_true, if_false, reduceIte]
    exact k ks f h' pp ek nd km kv
end
end Mi

set_option Elab.async false
set_option linter.all false
set_option maxRecDepth 100000
set_option maxHeartbeats 4000000
/-! unifying: _inmost_first: who stands in whom -/
namespace Mi
open PySem PySem.Spec PyProof.Rows L2 Un
theorem unlock_pre {h h' : Hh} {a : Nat} {x y : O} (p : h.set a x <+: h') (e : h[a]? = some y) : h <+: h'.set a y := by
  obtain ⟨t, rfl⟩ := p
  have ha := at_lt e
  rw [List.set_append_left _ _ (by rw [List.length_set]; exact ha), List.set_set]
  have : h.set a y = h := by
    apply List.ext_getElem?
    intro i
    by_cases c : a = i
    · subst c; rw [List.getElem?_set_self ha, e]
    · rw [List.getElem?_set_ne c]
  rw [this]
  exact ⟨t, rfl⟩
/-- what stands right in a class -/
def Wn (pt : Nat → Tx) (inr : Nat → List Nat) (L : Nat → Nat) (l : Nat) : List Nat := match pt l with
  | .v _ => []
  | .a _ _ => (inr l).map L
structure KhI (b : Nat) (h0 h' : Hh) (ks wks : List Nat) (ua : Nat → Nat) (us : Nat → List Nat) (wt : Nat → Nat) : Prop where
  pre : h0 <+: h'
  cu : h'[b]? = some (O.dct false (nK ks fun k => D.ref (ua k)))
  cw : h'[b + 1]? = some (O.dct false (nK wks fun k => nD (wt k)))
  cl : ∀ k, k ∈ ks → b + 2 ≤ ua k ∧ h'[ua k]? = some (O.lst ((us k).map nD))
  inj : ∀ k k', k ∈ ks → k' ∈ ks → ua k = ua k' → k = k'
variable {b : Nat} {h0 h' h'' : Hh} {ks wks : List Nat} {ua : Nat → Nat} {us : Nat → List Nat} {wt : Nat → Nat}
theorem KhI.ext (I : KhI b h0 h' ks wks ua us wt) (p : h' <+: h'') : KhI b h0 h'' ks wks ua us wt := ⟨I.pre.trans p, pre_at p I.cu, pre_at p I.cw, fun k hk => ⟨(I.cl k hk).1, pre_at p (I.cl k hk).2⟩, I.inj⟩
/-- another one is unlocked, locked -/
theorem KhI.unlk (I : KhI b (h0.set a x) h' ks wks ua us wt) {y : O} (e : h0[a]? = some y) (hb : h0.length ≤ b) : KhI b h0 (h'.set a y) ks wks ua us wt := by
  have ha := at_lt e
  exact ⟨unlock_pre I.pre e, set_at I.cu (by omega), set_at I.cw (by omega), fun k hk => ⟨(I.cl k hk).1, set_at (I.cl k hk).2 (by have := (I.cl k hk).1; omega)⟩, I.inj⟩
theorem KhI.lock (I : KhI b h0 h' ks wks ua us wt) {a : Nat} {y : O} (ha : a < h0.length) (hb : h0.length ≤ b) : KhI b (h0.set a y) (h'.set a y) ks wks ua us wt := by
  refine ⟨?_, set_at I.cu (by omega), set_at I.cw (by omega), fun k hk => ⟨(I.cl k hk).1, set_at (I.cl k hk).2 (by have := (I.cl k hk).1; omega)⟩, I.inj⟩
  obtain ⟨t, rfl⟩ := I.pre
  rw [List.set_append_left _ _ ha]
  exact ⟨t, rfl⟩
/-- one more in a list -/
theorem KhI.push (I : KhI b h0 h' ks wks ua us wt) (hb : h0.length ≤ b) {p u : Nat} (hp : p ∈ ks) : KhI b h0 (h'.set (ua p) (.lst ((us p).map nD ++ [nD u]))) ks wks ua (fun k => if k = p then us p ++ [u] else us k) wt := by
  have h1 := (I.cl p hp).1
  refine ⟨pre_set I.pre (by omega), set_at I.cu (by omega), set_at I.cw (by omega), fun k hk => ⟨(I.cl k hk).1, ?_⟩, I.inj⟩
  by_cases c : k = p
  · subst c
    rw [if_pos rfl, List.map_append]
    exact set_self (I.cl k hk).2
  · rw [if_neg c]
    exact set_at (I.cl k hk).2 fun e => c (I.inj k p hk hp e.symm)
/-- a wait is set -/
theorem KhI.wait (I : KhI b h0 h' ks wks ua us wt) (hb : h0.length ≤ b) {u v : Nat} : KhI b h0 (h'.set (b + 1) (.dct false (nK (if u ∈ wks then wks else wks ++ [u]) (upD (fun k => nD (wt k)) u (nD v))))) ks (if u ∈ wks then wks else wks ++ [u]) ua us (uq1 wt u v) := by
  refine ⟨pre_set I.pre (by omega), set_at I.cu (by omega), ?_, fun k hk => ⟨(I.cl k hk).1, set_at (I.cl k hk).2 (by have := (I.cl k hk).1; omega)⟩, I.inj⟩
  have e : upD (fun k => nD (wt k)) u (nD v) = fun k => nD (uq1 wt u v k) := by
    funext k
    unfold upD uq1
    split <;> rfl
  rw [e]
  exact set_self I.cw
theorem take_mem {α : Type} {l : List α} {i : Nat} {x : α} (nd : l.Nodup) (e : l[i]? = some x) : x ∉ l.take i := by
  intro hm
  have : (l.take i ++ l.drop i).Nodup := by rw [List.take_append_drop]; exact nd
  rw [drop_cons e, List.nodup_append] at this
  exact this.2.2 x hm x List.mem_cons_self rfl
theorem lk_dn {τ : Sl} {h : Hh} {i a : Nat} {kvs : List (Ky × D)} (e : τ[i]? = some (some (.ref a))) (ha : h[a]? = some (.dct false kvs)) : Ir.lk τ h (.nm i) = some (a, kvs) := by
  show dctF τ h i = _
  unfold dctF
  rw [e]
  dsimp only
  rw [ha]
theorem lk_di {τ : Sl} {h : Hh} {i a : Nat} {kvs : List (Ky × D)} (e : τ[i]? = some (some (.ref a))) (ha : h[a]? = some (.dct false kvs)) : Ir.lk τ h (.its i) = some (a, kvs) := by
  show dctF τ h i = _
  unfold dctF
  rw [e]
  dsimp only
  rw [ha]
theorem lk_dv {τ : Sl} {h : Hh} {i a : Nat} {kvs : List (Ky × D)} (e : τ[i]? = some (some (.ref a))) (ha : h[a]? = some (.dct false kvs)) : Ir.lk τ h (.vls i) = some (a, kvs) := by
  show dctF τ h i = _
  unfold dctF
  rw [e]
  dsimp only
  rw [ha]
theorem dctAt_at {τ : Sl} {h : Hh} {i a : Nat} {kvs : List (Ky × D)} (e : τ[i]? = some (some (.ref a))) (ha : h[a]? = some (.dct true kvs)) : dctAt τ h i = some (a, kvs) := by
  unfold dctAt
  rw [e]
  dsimp only
  rw [ha]
section
variable {Z : Zi} {C : Cal}
def lp2 : Ss := (.cons (.sub (.v 1) (.v 3) (.lst .nil)) .nil)
/-- each has a list -/
theorem lists_w {h : Hh} {a : Nat} {f : Nat → D} {ks : List Nat} {D0 : En} {v4 v5 v6 v7 v8 v9 v10 : Option D} (ea : h[a]? = some (.dct false (nK ks f))) (nd : ks.Nodup) (hl : ks.length ≤ 100000)
    (hn : ∀ ua h' v3, KhI h.length h h' ks [] ua (fun _ => []) (fun _ => 0) → D0.nx [some (.ref a), some (.ref h.length), some (.ref (h.length + 1)), v3, v4, v5, v6, v7, v8, v9, v10] h') :
    wS Z C (.loop (.n 3) (.nm 0) lp2) D0 [some (.ref a), some (.ref h.length), some (.ref (h.length + 1)), none, v4, v5, v6, v7, v8, v9, v10] (h ++ [.dct false [], .dct false []]) := by
  have ha := at_lt ea
  have ea2 : (h ++ [O.dct false [], .dct false []])[a]? = some (.dct false (nK ks f)) := by rw [List.getElem?_append_left ha]; exact ea
  simp only [wS]
  rw [lk_dn (i := 0) rfl ea2]
  simp only [wI]
  rw [dctAt_at (i := 0) rfl (set_self ea2)]
  dsimp only
  have hh : (h ++ [O.dct false [], .dct false []]).set a (.dct true (nK ks f)) = h.set a (.dct true (nK ks f)) ++ [.dct false [], .dct false []] := by rw [List.set_append_left _ _ ha]
  rw [hh]
  have hL : (h.set a (.dct true (nK ks f))).length = h.length := List.length_set
  have eL : (h.set a (.dct true (nK ks f)))[a]? = some (.dct true (nK ks f)) := set_self ea
  have g : ∀ i, (h.set a (.dct true (nK ks f)) ++ [O.dct false [], .dct false []])[h.length + i]? = [O.dct false [], .dct false []][i]? := fun i => by rw [← hL, List.getElem?_append_right (by omega), Nat.add_sub_cancel_left]
  refine wItems_inv (fun i τ h' => ∃ (ua : Nat → Nat) (v3 : Option D), KhI h.length (h.set a (.dct true (nK ks f))) h' (ks.take i) [] ua (fun _ => []) (fun _ => 0) ∧ τ = [some (.ref a), some (.ref h.length), some (.ref (h.length + 1)), v3, v4, v5, v6, v7, v8, v9, v10]) (fun i τ h' ⟨ua, v3, I, _⟩ => pre_at I.pre eL) ?_ ?_ ⟨fun _ => 0, none, ⟨⟨_, rfl⟩, g 0, g 1, fun k hk => (by cases hk), fun k k' hk => (by cases hk)⟩, rfl⟩
  · rintro i d τ h' kk ed ⟨ua, v3, I, rfl⟩ hkk
    unfold nK at ed
    rw [List.map_map, List.getElem?_map] at ed
    obtain ⟨l, el, rfl⟩ := Option.map_eq_some_iff.mp ed
    refine wG_n ?_
    have hnot := take_mem nd el
    have hi : i < ks.length := (List.getElem?_eq_some_iff.mp el).1
    have hb2 : h.length + 2 ≤ h'.length := at_lt I.cw
    refine wSs_c ?_
    simp only [wS, wE, wEs, wPs, kysOf, D.ky, wO, wT, wI, Op2.sem, Bi.sem, okS, okB, En.px, List.getElem?_cons_zero, List.getElem?_cons_succ, List.set_cons_zero, List.set_cons_succ, List.map_cons, List.map_nil, List.cons_append, List.nil_append, List.append_nil, Bool.false_eq_true, if_true, if_false, reduceIte]
    refine ⟨by rw [sizeLine_eq]; simp, ?_⟩
    rw [pre_at (pre_snoc (List.prefix_refl _)) I.cu]
    dsimp only [Function.comp, Ky.d, D.ky]
    refine ⟨by rw [sizeLine_eq, nK_len, List.length_take]; omega, ?_⟩
    rw [putKd_nK, if_neg hnot]
    refine wSs_n (hkk _ _ ⟨uq1 ua l h'.length, _, ?_, rfl⟩)
    have I1 := I.ext (pre_snoc (List.prefix_refl _) (o := O.lst []))
    have eu : upD (fun k => D.ref (ua k)) l (.ref h'.length) = fun k => D.ref (uq1 ua l h'.length k) := by
      funext k
      unfold upD uq1
      split <;> rfl
    rw [eu, ← take_snoc el]
    refine ⟨pre_set I1.pre (by omega), set_self I1.cu, set_at I1.cw (by omega), fun k hk => ?_, fun k k' hk hk' e => ?_⟩
    · rw [take_snoc el] at hk
      by_cases c : k = l
      · subst c
        rw [uq1_same]
        exact ⟨by omega, set_at new_at (by omega)⟩
      · rw [uq1_ne c]
        have hk2 : k ∈ ks.take i := (List.mem_append.mp hk).resolve_right fun q => c (List.mem_singleton.mp q)
        have := I1.cl k hk2
        exact ⟨this.1, set_at this.2 (by omega)⟩
    · rw [take_snoc el] at hk hk'
      have own : ∀ m, m ∈ ks.take i ++ [l] → m ≠ l → m ∈ ks.take i := fun m hm c => (List.mem_append.mp hm).resolve_right fun q => c (List.mem_singleton.mp q)
      by_cases c : k = l
      · by_cases c2 : k' = l
        · rw [c, c2]
        · subst c
          rw [uq1_same, uq1_ne c2] at e
          have := at_lt (I.cl k' (own k' hk' c2)).2
          omega
      · by_cases c2 : k' = l
        · subst c2
          rw [uq1_same, uq1_ne c] at e
          have := at_lt (I.cl k (own k hk c)).2
          omega
        · rw [uq1_ne c, uq1_ne c2] at e
          exact I.inj k k' (own k hk c) (own k' hk' c2) e
  · rintro τ h' ⟨ua, v3, I, rfl⟩
    have hlen : ((nK ks f).map fun p => p.1.d).length = ks.length := by rw [List.length_map, nK_len]
    rw [hlen, List.take_of_length_le (Nat.le_refl _)] at I
    refine ⟨pre_at I.pre eL, ?_⟩
    exact hn ua _ v3 (I.unlk ea (Nat.le_refl _))
end
end Mi

set_option Elab.async false
set_option linter.all false
set_option maxRecDepth 100000
set_option maxHeartbeats 4000000
/-! unifying: _inmost_first: users and waits -/
namespace Mi
open PySem PySem.Spec PyProof.Rows L2 Un
theorem within_x {Z : Zi} {B : List Fd} (hU : HasU B) {j N lo i l : Nat} {pt : Nat → Tx} {inr : Nat → List Nat} {L : Nat → Nat} {h : Hh} {d : D} {Q : PQ} {Qx : PX} (c : ClsV h N pt inr L lo i l d) (h' : Hh) (p : ∀ r xs, r < h.length → h[r]? = some (.lst xs) → h'[r]? = some (.lst xs)) (hlen : h.length ≤ h'.length)
    (k : ∀ r h2, h' <+: h2 → h2[r]? = some (.lst ((Wn pt inr L l).map nD)) → (r < h.length ∨ r = h'.length) → Q (.ref r) h2) : WPc Z B (j + 1) 20 [d] h' Q Qx := by
  unfold ClsV at c
  unfold Wn at k
  cases hp : pt l with
  | v x =>
    rw [hp] at c k
    obtain ⟨z, rfl, _⟩ := c
    refine within_w hU _ (.inl ⟨z, rfl⟩) ⟨fun x e => ?_, fun y z e => (by cases e)⟩
    exact k _ _ (pre_snoc (List.prefix_refl _)) new_at (.inr rfl)
  | a n us =>
    rw [hp] at c k
    obtain ⟨r, rfl, _, hr⟩ := c
    refine within_w hU _ (.inr ⟨_, _, rfl⟩) ⟨fun x e => (by cases e), fun y z e => ?_⟩
    cases e
    refine k r h' (List.prefix_refl _) ?_ (.inl (at_lt hr))
    rw [p r _ (at_lt hr) hr, List.map_map]; rfl
def in3 : Ss := (.cons (.ex (.mt .append (.op .ix (.v 1) (.v 6)) (.cons (.v 3) .nil))) .nil)
def lp3 : Ss := (.cons (.asg (.n 5) (.call 20 (.cons (.v 4) .nil)))
  (.cons (.sub (.v 2) (.v 3) (.bi .len (.cons (.v 5) .nil)))
  (.cons (.loop (.n 6) (.nm 5) in3)
  .nil)))
theorem count_take {W : List Nat} {i p x : Nat} (e : W[i]? = some x) : (W.take (i + 1)).count p = (W.take i).count p + if x = p then 1 else 0 := by
  rw [take_snoc e, List.count_append]
  congr 1
  rw [List.count_cons, List.count_nil, Nat.zero_add]
  by_cases c : x = p
  · subst c; simp
  · simp [c]
theorem users_w {Z : Zi} {B : List Fd} (hU : HasU B) {j N lo a : Nat} {pt : Nat → Tx} {inr : Nat → List Nat} {L : Nat → Nat} {ks : List Nat} {f : Nat → D} {h h1 : Hh} {ua : Nat → Nat} {D0 : En} {v3 v7 v8 v9 v10 : Option D}
    (ea : h[a]? = some (.dct false (nK ks f))) (nd : ks.Nodup) (hl : ks.length ≤ 100000) (cv : ∀ l ∈ ks, ClsV h N pt inr L lo N l (f l)) (wk : ∀ l ∈ ks, ∀ p ∈ Wn pt inr L l, p ∈ ks) (w4 : ∀ l ∈ ks, (Wn pt inr L l).length ≤ 4)
    (I0 : KhI h.length h h1 ks [] ua (fun _ => []) (fun _ => 0))
    (hn : ∀ us wt h' v3 v4 v5 v6, KhI h.length h h' ks ks ua us wt → (∀ p ∈ ks, ∀ u, (us p).count u = if u ∈ ks then (Wn pt inr L u).count p else 0) → (∀ u ∈ ks, wt u = (Wn pt inr L u).length) → (∀ p, (us p).length ≤ 400000) → D0.nx [some (.ref a), some (.ref h.length), some (.ref (h.length + 1)), v3, v4, v5, v6, v7, v8, v9, v10] h') :
    wS Z (WPc Z B (j + 1)) (.loop (.t (.cons (.n 3) (.cons (.n 4) .nil))) (.its 0) lp3) D0 [some (.ref a), some (.ref h.length), some (.ref (h.length + 1)), v3, none, none, none, v7, v8, v9, v10] h1 := by
  have ha := at_lt ea
  have ea1 := pre_at I0.pre ea
  have hL : (h.set a (.dct true (nK ks f))).length = h.length := List.length_set
  have eL : (h.set a (.dct true (nK ks f)))[a]? = some (.dct true (nK ks f)) := set_self ea
  have same : ∀ {h' : Hh}, h.set a (.dct true (nK ks f)) <+: h' → ∀ r xs, r < h.length → h[r]? = some (O.lst xs) → h'[r]? = some (O.lst xs) := fun p r xs hr e => by
    refine pre_at p (set_at e fun c => ?_)
    subst c; rw [ea] at e; cases e
  simp only [wS]
  rw [lk_di (i := 0) rfl ea1]
  simp only [wI, dctIn]
  rw [dctAt_at (i := 0) rfl (set_self ea1)]
  dsimp only
  have J0 := I0.lock (y := .dct true (nK ks f)) ha (Nat.le_refl _)
  have hb := Nat.le_of_eq hL
  refine wItems_inv (fun i τ h' => ∃ (us : Nat → List Nat) (wt : Nat → Nat) (v3 v4 v5 v6 : Option D), KhI h.length (h.set a (.dct true (nK ks f))) h' ks (ks.take i) ua us wt ∧ (∀ p ∈ ks, ∀ u, (us p).count u = if u ∈ ks.take i then (Wn pt inr L u).count p else 0) ∧ (∀ u ∈ ks.take i, wt u = (Wn pt inr L u).length) ∧ (∀ p, (us p).length ≤ 4 * i) ∧ τ = [some (.ref a), some (.ref h.length), some (.ref (h.length + 1)), v3, v4, v5, v6, v7, v8, v9, v10])
    (fun i τ h' ⟨us, wt, v3, v4, v5, v6, I, _⟩ => pre_at I.pre eL) ?_ ?_ ⟨fun _ => [], fun _ => 0, _, _, _, _, J0, fun p _ u => by simp, fun u hu => (by cases hu), fun p => (by simp), rfl⟩
  · rintro i d τ h' kk ed ⟨us, wt, v3, v4, v5, v6, I, k1, k2, k3, rfl⟩ hkk
    unfold nK at ed
    rw [List.map_map, List.getElem?_map] at ed
    obtain ⟨l, el, rfl⟩ := Option.map_eq_some_iff.mp ed
    have hlk := List.mem_of_getElem? el
    have hnot := take_mem nd el
    have hi : i < ks.length := (List.getElem?_eq_some_iff.mp el).1
    have hlh : h.length ≤ h'.length := by have := pre_len I.pre; omega
    show wG _ (.tup [nD l, f l]) _ _ _
    refine wG_2 ?_
    simp only [List.set_cons_succ, List.set_cons_zero]
    refine wSs_c ?_
    simp only [wS, wE, wEs, wPs, kysOf, D.ky, wO, wT, wI, Op2.sem, Bi.sem, okS, okB, En.px, List.getElem?_cons_zero, List.getElem?_cons_succ, List.set_cons_zero, List.set_cons_succ, List.map_cons, List.map_nil, List.cons_append, List.nil_append, List.append_nil, Bool.false_eq_true, if_true, if_false, reduceIte]
    refine within_x hU (cv l hlk) h' (same I.pre) hlh fun r h2 p2 er hr => ?_
    have I2 := I.ext p2
    have hua : ∀ k ∈ ks, ua k ≠ r := fun k hk e => by
      have c1 := (I.cl k hk).1
      have c2 := at_lt (I.cl k hk).2
      rcases hr with q | q <;> omega
    have hb1 : h.length + 1 ≠ r := by
      have := at_lt I.cw
      rcases hr with q | q <;> omega
    refine wG_n ?_
    refine wSs_c ?_
    simp only [wS, wE, wEs, wPs, kysOf, D.ky, wO, wT, wI, Op2.sem, Bi.sem, okS, okB, En.px, List.getElem?_cons_zero, List.getElem?_cons_succ, List.set_cons_zero, List.set_cons_succ, List.map_cons, List.map_nil, List.cons_append, List.nil_append, List.append_nil, Bool.false_eq_true, if_true, if_false, reduceIte]
    rw [lenS_ref (asL_at er)]
    dsimp only
    rw [I2.cw]
    dsimp only [nD, D.ky]
    refine ⟨by rw [sizeLine_eq, nK_len, List.length_take]; omega, ?_⟩
    rw [putKd_nK]
    have I3 := I2.wait hb (u := l) (v := ((Wn pt inr L l).map nD).length)
    rw [if_neg hnot, ← take_snoc el] at I3
    rw [if_neg hnot, ← take_snoc el]
    dsimp only [nD] at I3
    have er3 := set_at (o := .dct false (nK (ks.take (i + 1)) (upD (fun k => D.int ((wt k : Nat) : Int)) l (.int ((((Wn pt inr L l).map nD).length : Nat) : Int))))) er hb1
    refine wSs_c ?_
    simp only [wS]
    rw [lk_nmL (i := 5) rfl er3]
    simp only [wI]
    rw [dctAt_lst (i := 5) rfl er3]
    dsimp only [srcD, List.getElem?_cons_succ, List.getElem?_cons_zero]
    rw [asL_at er3]
    dsimp only
    have bnd : ∀ t, t < (Wn pt inr L l).length → t < 4 := fun t ht => by have := w4 l hlk; omega
    refine wItems_inv (fun t τ h3 => ∃ (us3 : Nat → List Nat) (v6 : Option D), KhI h.length (h.set a (.dct true (nK ks f))) h3 ks (ks.take (i + 1)) ua us3 (uq1 wt l ((Wn pt inr L l).map nD).length) ∧ h3[r]? = some (O.lst ((Wn pt inr L l).map nD)) ∧ (∀ p ∈ ks, ∀ u, (us3 p).count u = if u = l then ((Wn pt inr L l).take t).count p else if u ∈ ks.take i then (Wn pt inr L u).count p else 0) ∧ (∀ p, (us3 p).length ≤ 4 * i + t) ∧ τ = [some (.ref a), some (.ref h.length), some (.ref (h.length + 1)), some (nD l), some (f l), some (.ref r), v6, v7, v8, v9, v10])
      (fun t τ h3 ⟨_, _, _, e, _⟩ => asL_at e) ?_ ?_ ⟨us, _, I3, er3, fun p hp u => ?_, fun p => (by have := k3 p; omega), rfl⟩
    · rintro t d τ h3 kk2 ed2 ⟨us3, v6, I4, er4, c1, c2, rfl⟩ hkk2
      rw [List.getElem?_map] at ed2
      obtain ⟨x, ex, rfl⟩ := Option.map_eq_some_iff.mp ed2
      have hx : x ∈ ks := wk l hlk x (List.mem_of_getElem? ex)
      have ht := bnd t (List.getElem?_eq_some_iff.mp ex).1
      refine wG_n ?_
      refine wSs_c ?_
      simp only [wS, wE, wEs, wPs, kysOf, D.ky, wO, wT, wI, Op2.sem, Bi.sem, okS, okB, En.px, List.getElem?_cons_zero, List.getElem?_cons_succ, List.set_cons_zero, List.set_cons_succ, List.map_cons, List.map_nil, List.cons_append, List.nil_append, List.append_nil, Bool.false_eq_true, if_true, if_false, reduceIte]
      rw [ixS_num I4.cu hx]
      dsimp only
      rw [recT_lst (I4.cl x hx).2]
      refine ⟨rfl, ?_⟩
      rw [push_at (I4.cl x hx).2 (by rw [List.length_map]; have := c2 x; omega)]
      refine wSs_n (hkk2 _ _ ⟨_, _, I4.push hb hx, set_at er4 (hua x hx), fun p hp u => ?_, fun p => ?_, rfl⟩)
      · by_cases cx : p = x
        · subst cx
          rw [if_pos rfl, List.count_append, c1 p hp u]
          by_cases cu : u = l
          · subst cu
            rw [if_pos rfl, if_pos rfl, count_take ex, if_pos rfl]; simp
          · rw [if_neg cu, if_neg cu]
            have : List.count u [l] = 0 := List.count_eq_zero_of_not_mem (by rw [List.mem_singleton]; exact cu)
            rw [this]; rfl
        · rw [if_neg cx, c1 p hp u]
          by_cases cu : u = l
          · rw [if_pos cu, if_pos cu, count_take ex, if_neg (fun e => cx e.symm)]; rfl
          · rw [if_neg cu, if_neg cu]
      · by_cases cx : p = x
        · rw [if_pos cx, List.length_append]; have := c2 x; simp; omega
        · rw [if_neg cx]; have := c2 p; omega
    · rintro τ h3 ⟨us3, v6, I4, er4, c1, c2, rfl⟩
      rw [List.length_map, List.take_of_length_le (Nat.le_refl _)] at c1
      rw [List.length_map] at c2
      refine wSs_n (hkk _ _ ⟨us3, _, _, _, _, _, I4, fun p hp u => ?_, fun u hu => ?_, fun p => ?_, rfl⟩)
      · rw [c1 p hp u]
        by_cases cu : u = l
        · subst cu
          rw [if_pos rfl, if_pos (by rw [take_snoc el]; simp)]
        · rw [if_neg cu]
          have : u ∈ ks.take (i + 1) ↔ u ∈ ks.take i := by rw [take_snoc el]; simp [cu]
          simp only [this]
      · rw [take_snoc el] at hu
        by_cases cu : u = l
        · subst cu; rw [uq1_same, List.length_map]
        · rw [uq1_ne cu]
          exact k2 u ((List.mem_append.mp hu).resolve_right fun q => cu (List.mem_singleton.mp q))
      · have := c2 p
        have := w4 l hlk
        omega
    · rw [k1 p hp u]
      by_cases cu : u = l
      · subst cu; rw [if_pos rfl, if_neg hnot]; simp
      · rw [if_neg cu]
  · rintro τ h' ⟨us, wt, v3, v4, v5, v6, I, k1, k2, k3, rfl⟩
    have hlen : ((nK ks f).map fun p => D.tup [p.1.d, p.2]).length = ks.length := by rw [List.length_map, nK_len]
    rw [hlen] at k3
    rw [hlen, List.take_of_length_le (Nat.le_refl _)] at I k1 k2
    refine ⟨pre_at I.pre eL, ?_⟩
    exact hn us wt _ v3 v4 v5 v6 (I.unlk ea (Nat.le_refl _)) k1 k2 fun p => by have := k3 p; omega
end Mi

set_option Elab.async false
set_option linter.all false
set_option maxRecDepth 100000
set_option maxHeartbeats 4000000
/-! unifying: _inmost_first: each behind those that stand in it -/
namespace Mi
open PySem PySem.Spec PyProof.Rows L2 Un
/-- how many stand outside -/
def outs (W T : List Nat) : Nat := W.countP fun p => !decide (p ∈ T)
theorem outs_split {T : List Nat} {now : Nat} (h : now ∉ T) : ∀ W : List Nat, outs W T = W.count now + outs W (T ++ [now])
  | [] => rfl
  | p :: W => by
    have ih := outs_split h W
    unfold outs at *
    rw [List.countP_cons, List.countP_cons, List.count_cons, ih]
    by_cases c : p = now
    · subst c; simp [h]; omega
    · by_cases c2 : p ∈ T
      · simp [c, c2]
      · simp [c, c2]; omega
theorem outs_zero {W T : List Nat} (h : outs W T = 0) : ∀ p ∈ W, p ∈ T := fun p hp => by
  unfold outs at h
  have := List.countP_eq_zero.mp h p hp
  simpa using this
theorem outs_pos {W T : List Nat} (h : outs W T ≠ 0) : ∃ p ∈ W, p ∉ T := by
  obtain ⟨p, hp, e⟩ := List.countP_pos_iff.mp (Nat.pos_of_ne_zero h)
  exact ⟨p, hp, by simpa using e⟩
def in4 : Ss := (.cons (.sub (.v 2) (.v 10) (.op .sub (.op .ix (.v 2) (.v 10)) (.k (.int 1))))
  (.cons (.ite (.op .eq (.op .ix (.v 2) (.v 10)) (.k (.int 0))) (.cons (.ex (.mt .append (.v 7) (.cons (.v 10) .nil)))
  .nil) .nil)
  .nil))
theorem subS_n {h : Hh} {a : Nat} (ha : 1 ≤ a) : subS h (nD a) (.int 1) = some (nD (a - 1), h) := by
  show some (D.int ((a : Int) - 1), h) = _
  rw [show (a : Int) - 1 = ((a - 1 : Nat) : Int) from by omega]; rfl
/-- one more that waits no longer for now -/
theorem step4 {Z : Zi} {C : Cal} {b o : Nat} {h h3 : Hh} {ks : List Nat} {ua : Nat → Nat} {us : Nat → List Nat} {wt : Nat → Nat} {od : List Nat} {u : Nat} {v0 v3 v4 v5 v6 v8 v9 : Option D} {D0 : En} (hb : h.length ≤ b) (I : KhI b h h3 ks ks ua us wt) (hl : ks.length ≤ 100000) (hu : u ∈ ks) (ho : o ≠ b + 1) (hbo : h.length ≤ o) (hob : o ≠ b) (hou : ∀ k ∈ ks, ua k ≠ o) (eo : h3[o]? = some (.lst (od.map nD))) (ol : od.length ≤ 100000) (w1 : 1 ≤ wt u)
    (hn : ∀ h4, KhI b h h4 ks ks ua us (uq1 wt u (wt u - 1)) → h4[o]? = some (O.lst ((if wt u = 1 then od ++ [u] else od).map nD)) → D0.nx [v0, some (.ref b), some (.ref (b + 1)), v3, v4, v5, v6, some (.ref o), v8, v9, some (nD u)] h4) :
    wSs Z C in4 D0 [v0, some (.ref b), some (.ref (b + 1)), v3, v4, v5, v6, some (.ref o), v8, v9, some (nD u)] h3 := by
  unfold in4
  refine wSs_c ?_
  simp only [wS, wE, wEs, wPs, kysOf, D.ky, wO, wT, wI, Op2.sem, Bi.sem, okS, okB, En.px, List.getElem?_cons_zero, List.getElem?_cons_succ, List.set_cons_zero, List.set_cons_succ, List.map_cons, List.map_nil, List.cons_append, List.nil_append, List.append_nil, Bool.false_eq_true, if_true, if_false, reduceIte]
  rw [ixS_num I.cw hu]
  dsimp only
  rw [subS_n w1]
  dsimp only
  rw [I.cw]
  dsimp only [nD, D.ky]
  refine ⟨by rw [sizeLine_eq, nK_len]; omega, ?_⟩
  rw [putKd_nK]
  have I2 := I.wait hb (u := u) (v := wt u - 1)
  rw [if_pos hu] at I2 ⊢
  dsimp only [nD] at I2
  have eo2 : (h3.set (b + 1) (.dct false (nK ks (upD (fun k => D.int ((wt k : Nat) : Int)) u (.int ((wt u - 1 : Nat) : Int))))))[o]? = some (O.lst (od.map nD)) := set_at eo (fun e => ho e.symm)
  revert I2 eo2
  generalize h3.set (b + 1) (.dct false (nK ks (upD (fun k => D.int ((wt k : Nat) : Int)) u (.int ((wt u - 1 : Nat) : Int))))) = h4
  intro I2 eo2
  refine wSs_c ?_
  simp only [wS, wE, wEs, wPs, kysOf, D.ky, wO, wT, wI, Op2.sem, Bi.sem, okS, okB, En.px, List.getElem?_cons_zero, List.getElem?_cons_succ, List.set_cons_zero, List.set_cons_succ, List.map_cons, List.map_nil, List.cons_append, List.nil_append, List.append_nil, Bool.false_eq_true, if_true, if_false, reduceIte]
  rw [show D.int (u : Int) = nD u from rfl]
  rw [ixS_num I2.cw hu, uq1_same]
  dsimp only
  rw [show eqS h4 (nD (wt u - 1)) (.int 0) = some (.bl (decide (wt u - 1 = 0)), h4) from by rw [← nD_beq]; rfl]
  simp only [truD_b]
  by_cases c : wt u = 1
  · rw [decide_eq_true (by omega), if_pos rfl]
    refine wSs_c ?_
    simp only [wS, wE, wEs, wPs, kysOf, D.ky, wO, wT, wI, Op2.sem, Bi.sem, okS, okB, En.px, List.getElem?_cons_zero, List.getElem?_cons_succ, List.set_cons_zero, List.set_cons_succ, List.map_cons, List.map_nil, List.cons_append, List.nil_append, List.append_nil, Bool.false_eq_true, if_true, if_false, reduceIte]
    rw [recT_lst eo2]
    refine ⟨rfl, ?_⟩
    rw [push_at eo2 (by rw [List.length_map]; omega)]
    refine wSs_n (wSs_n (Z := Z) (C := C) (hn _ ?_ ?_))
    · exact ⟨pre_set I2.pre hbo, set_at I2.cu hob, set_at I2.cw ho, fun k hk => ⟨(I2.cl k hk).1, set_at (I2.cl k hk).2 (fun e => hou k hk e.symm)⟩, I2.inj⟩
    · rw [if_pos c, List.map_append]
      exact set_self eo2
  · rw [decide_eq_false (by omega), if_neg (by decide)]
    refine wSs_n (wSs_n (Z := Z) (C := C) (hn _ I2 ?_))
    rw [if_neg c]; exact eo2
end Mi

set_option Elab.async false
set_option linter.all false
set_option maxRecDepth 100000
set_option maxHeartbeats 4000000
/-! unifying: _inmost_first, the whole -/
namespace Mi
open PySem PySem.Spec PyProof.Rows L2 Un
structure KnI (ks : List Nat) (Wf : Nat → List Nat) (wt : Nat → Nat) (od : List Nat) : Prop where
  nd : od.Nodup
  sub : ∀ u, u ∈ od → u ∈ ks
  zero : ∀ u, u ∈ ks → (u ∈ od ↔ wt u = 0)
  ord : ∀ (i u : Nat), od[i]? = some u → ∀ p ∈ Wf u, p ∈ od.take i
theorem KnI.len {ks : List Nat} {Wf : Nat → List Nat} {wt : Nat → Nat} {od : List Nat} (K : KnI ks Wf wt od) : od.length ≤ ks.length := nodup_len K.nd K.sub
theorem KnI.step {ks : List Nat} {Wf : Nat → List Nat} {wt : Nat → Nat} {od : List Nat} (K : KnI ks Wf wt od) {u : Nat} (hu : u ∈ ks) (w1 : 1 ≤ wt u) (hw : wt u = 1 → ∀ p ∈ Wf u, p ∈ od) : KnI ks Wf (uq1 wt u (wt u - 1)) (if wt u = 1 then od ++ [u] else od) := by
  have hn : u ∉ od := fun e => by have := (K.zero u hu).1 e; omega
  by_cases c : wt u = 1
  · rw [if_pos c]
    refine ⟨List.nodup_append.mpr ⟨K.nd, List.nodup_cons.mpr ⟨by simp, List.nodup_nil⟩, fun a ha b hb e => by rw [List.mem_singleton.mp hb] at e; rw [e] at ha; exact hn ha⟩, fun x hx => ?_, fun x hx => ?_, fun i x e p hp => ?_⟩
    · rcases List.mem_append.mp hx with q | q
      · exact K.sub x q
      · rw [List.mem_singleton.mp q]; exact hu
    · by_cases cx : x = u
      · subst cx
        rw [uq1_same]
        exact ⟨fun _ => by omega, fun _ => by simp⟩
      · rw [uq1_ne cx, ← K.zero x hx]
        simp [cx]
    · by_cases ci : i < od.length
      · rw [List.getElem?_append_left ci] at e
        rw [List.take_append_of_le_length (by omega)]
        exact K.ord i x e p hp
      · rw [List.getElem?_append_right (by omega)] at e
        have hi : i - od.length = 0 := by
          have := (List.getElem?_eq_some_iff.mp e).1
          simp only [List.length_cons, List.length_nil] at this
          omega
        rw [hi] at e
        cases e
        rw [show i = od.length from by omega, List.take_left]
        exact hw c p hp
  · rw [if_neg c]
    refine ⟨K.nd, K.sub, fun x hx => ?_, K.ord⟩
    by_cases cx : x = u
    · subst cx
      rw [uq1_same]
      exact ⟨fun q => absurd q hn, fun q => by omega⟩
    · rw [uq1_ne cx]; exact K.zero x hx
theorem fm_filter {wt : Nat → Nat} : ∀ ks : List Nat, (ks.filterMap fun l => if wt l = 0 then some (nD l) else none) = (ks.filter fun l => decide (wt l = 0)).map nD
  | [] => rfl
  | x :: ks => by
    by_cases c : wt x = 0
    · rw [List.filterMap_cons, if_pos c, List.filter_cons, if_pos (decide_eq_true c), List.map_cons, ← fm_filter ks]
    · rw [List.filterMap_cons, if_neg c, List.filter_cons, if_neg (by simpa using c), ← fm_filter ks]
theorem order_w {Z : Zi} {B : List Fd} (hU : HasU B) {j N lo a : Nat} {pt : Nat → Tx} {inr : Nat → List Nat} {L : Nat → Nat} {ks : List Nat} {f : Nat → D} {h : Hh} {Q : PQ} {Qx : PX}
    (ea : h[a]? = some (.dct false (nK ks f))) (nd : ks.Nodup) (hl : ks.length ≤ 100000) (cv : ∀ l ∈ ks, ClsV h N pt inr L lo N l (f l)) (wk : ∀ l ∈ ks, ∀ p ∈ Wn pt inr L l, p ∈ ks) (w4 : ∀ l ∈ ks, (Wn pt inr L l).length ≤ 4)
    (k1 : ∀ S : Nat → Prop, (∃ l, S l) → (∀ l, S l → l ∈ ks ∧ ∃ p ∈ Wn pt inr L l, S p) → ∀ h', h <+: h' → Q .non h')
    (k2 : ∀ (od : List Nat) (o : Nat) (h' : Hh), h <+: h' → h'[o]? = some (.lst (od.map nD)) → od.Nodup → (∀ l, l ∈ od ↔ l ∈ ks) → (∀ (i u : Nat), od[i]? = some u → ∀ p ∈ Wn pt inr L u, p ∈ od.take i) → Q (.ref o) h') : WPc Z B (j + 2) 21 [.ref a] h Q Qx := by
  unfold WPc
  rw [hU 21 _ rfl]
  refine ⟨rfl, ?_⟩
  show wSs Z _ Uf.b21.body _ [some (.ref a), none, none, none, none, none, none, none, none, none, none] h
  unfold Uf.b21
  have ha := at_lt ea
  refine wSs_c ?_
  simp only [wS, wE, wEs, wPs, kysOf, D.ky, wO, wT, wI, Op2.sem, Bi.sem, okS, okB, En.px, List.getElem?_cons_zero, List.getElem?_cons_succ, List.set_cons_zero, List.set_cons_succ, List.map_cons, List.map_nil, List.cons_append, List.nil_append, List.append_nil, Bool.false_eq_true, if_true, if_false, reduceIte]
  refine ⟨by simp, new_at, wG_n ?_⟩
  rw [set_new]
  refine wSs_c ?_
  simp only [wS, wE, wEs, wPs, kysOf, D.ky, wO, wT, wI, Op2.sem, Bi.sem, okS, okB, En.px, List.getElem?_cons_zero, List.getElem?_cons_succ, List.set_cons_zero, List.set_cons_succ, List.map_cons, List.map_nil, List.cons_append, List.nil_append, List.append_nil, Bool.false_eq_true, if_true, if_false, reduceIte]
  refine ⟨by simp, new_at, wG_n ?_⟩
  rw [set_new]
  simp only [List.set_cons_succ, List.set_cons_zero, List.length_append, List.length_cons, List.length_nil, Nat.zero_add]
  rw [show h ++ [O.dct false (mergeKd [] [])] ++ [O.dct false (mergeKd [] [])] = h ++ [O.dct false [], .dct false []] from by simp [mergeKd]]
  refine wSs_c ?_
  refine lists_w ea nd hl fun ua h1 v3 I1 => ?_
  refine wSs_c ?_
  refine users_w hU ea nd hl cv wk w4 I1 fun us wt h2 v3 v4 v5 v6 I2 c1 c2 c3 => ?_
  -- those that wait for none
  have hL : (h.set a (.dct true (nK ks f))).length = h.length := List.length_set
  refine wSs_c ?_
  simp only [wS, wE, wEs, wPs, kysOf, D.ky, wO, wT, wI, Op2.sem, Bi.sem, okS, okB, En.px, List.getElem?_cons_zero, List.getElem?_cons_succ, List.set_cons_zero, List.set_cons_succ, List.map_cons, List.map_nil, List.cons_append, List.nil_append, List.append_nil, Bool.false_eq_true, if_true, if_false, reduceIte]
  have ea2 := pre_at I2.pre ea
  rw [lk_dn (i := 0) rfl ea2]
  dsimp only
  rw [dctAt_at (i := 0) rfl (set_self ea2)]
  dsimp only
  have J2 := I2.lock (y := .dct true (nK ks f)) ha (Nat.le_refl _)
  have el2 : (h2.set a (.dct true (nK ks f)))[a]? = some (.dct true (nK ks f)) := set_self ea2
  have hks : ((nK ks f).map fun p => p.1.d) = ks.map nD := by unfold nK; rw [List.map_map]; rfl
  rw [hks]
  refine wAcc_xs (h0 := h2.set a (.dct true (nK ks f))) (l := ks) (acc := []) nD (fun l => if wt l = 0 then some (nD l) else none) (fun h3 p3 => pre_at p3 el2) (fun l hlk q sk h3 p3 _ hq hsk => ?_) (pre_snoc (List.prefix_refl _)) new_at (by simp; omega) fun h3 p3 e3 => ?_
  · simp only [wipeA, List.set_cons_succ, List.set_cons_zero]
    refine wG_n ?_
    simp only [wS, wE, wEs, wPs, kysOf, D.ky, wO, wT, wI, Op2.sem, Bi.sem, okS, okB, En.px, List.getElem?_cons_zero, List.getElem?_cons_succ, List.set_cons_zero, List.set_cons_succ, List.map_cons, List.map_nil, List.cons_append, List.nil_append, List.append_nil, Bool.false_eq_true, if_true, if_false, reduceIte]
    rw [ixS_num (J2.ext p3).cw hlk]
    dsimp only
    rw [show eqS h3 (nD (wt l)) (.int 0) = some (.bl (decide (wt l = 0)), h3) from by rw [← nD_beq]; rfl]
    simp only [truD_b]
    by_cases c : wt l = 0
    · rw [decide_eq_true c, if_pos rfl]
      exact hq _ (if_pos c) _ (List.prefix_refl _)
    · rw [decide_eq_false c, if_neg (by decide)]
      exact hsk (if_neg c) _ (List.prefix_refl _)
  · refine ⟨pre_at p3 el2, wG_n ?_⟩
    have I3 := (J2.ext p3).unlk (y := .dct false (nK ks f)) ea (Nat.le_refl _)
    have e3' : (ks.filterMap fun l => if wt l = 0 then some (nD l) else none) = (ks.filter fun l => decide (wt l = 0)).map nD := fm_filter ks
    rw [List.nil_append, e3', List.length_set] at e3
    have hlen2 : h.length ≤ h2.length := pre_len I2.pre
    have hb2 : h.length + 2 ≤ h2.length := at_lt I2.cw
    have e3 : (h3.set a (.dct false (nK ks f)))[h2.length]? = some (O.lst ((ks.filter fun l => decide (wt l = 0)).map nD)) := set_at e3 (by omega)
    rw [List.length_set]
    revert I3 e3
    generalize h3.set a (.dct false (nK ks f)) = h4
    intro I3 e3
    have hou : ∀ k ∈ ks, ua k ≠ h2.length := fun k hk e => by have := at_lt (I2.cl k hk).2; omega
    simp only [List.set_cons_succ, List.set_cons_zero]
    refine wSs_c ?_
    simp only [wS, wE, wEs, wPs, kysOf, D.ky, wO, wT, wI, Op2.sem, Bi.sem, okS, okB, En.px, List.getElem?_cons_zero, List.getElem?_cons_succ, List.set_cons_zero, List.set_cons_succ, List.map_cons, List.map_nil, List.cons_append, List.nil_append, List.append_nil, Bool.false_eq_true, if_true, if_false, reduceIte]
    refine wG_n ?_
    have K0 : KnI ks (Wn pt inr L) wt (ks.filter fun l => decide (wt l = 0)) := by
      refine ⟨nd.filter _, fun u hu => (List.mem_filter.mp hu).1, fun u hu => ?_, fun i u e p hp => ?_⟩
      · rw [List.mem_filter]
        exact ⟨fun q => by simpa using q.2, fun q => ⟨hu, by simpa using q⟩⟩
      · have := List.mem_filter.mp (List.mem_of_getElem? e)
        have w0 : wt u = 0 := by simpa using this.2
        rw [c2 u this.1] at w0
        have : Wn pt inr L u = [] := List.length_eq_zero_iff.mp w0
        rw [this] at hp; cases hp
    refine wSs_c ?_
    simp only [wS]
    refine ⟨fun m τ h' => ∃ (wt' : Nat → Nat) (od : List Nat) (d : Nat) (v3 v9 v10 : Option D), KhI h.length h h' ks ks ua us wt' ∧ h'[h2.length]? = some (O.lst (od.map nD)) ∧ KnI ks (Wn pt inr L) wt' od ∧ d ≤ od.length ∧ (∀ u ∈ ks, wt' u = outs (Wn pt inr L u) (od.take d)) ∧ ks.length - d = m ∧ τ = [some (.ref a), some (.ref h.length), some (.ref (h.length + 1)), v3, v4, v5, v6, some (.ref h2.length), some (nD d), v9, v10],
      ⟨_, wt, _, 0, _, _, _, I3, e3, K0, Nat.zero_le _, fun u hu => ?_, rfl, rfl⟩, ?_⟩
    · rw [c2 u hu, List.take_zero]
      unfold outs
      rw [List.countP_eq_length.mpr (by simp)]
    · rintro m τ h' ⟨wt', od, d, v3, v9, v10, I, eo, K, hd, hw, hm, rfl⟩
      have ol := K.len
      simp only [wS, wE, wEs, wPs, kysOf, D.ky, wO, wT, wI, Op2.sem, Bi.sem, okS, okB, En.px, List.getElem?_cons_zero, List.getElem?_cons_succ, List.set_cons_zero, List.set_cons_succ, List.map_cons, List.map_nil, List.cons_append, List.nil_append, List.append_nil, Bool.false_eq_true, if_true, if_false, reduceIte]
      rw [lenS_ref (asL_at eo)]
      dsimp only [nD]
      rw [ltS_i, List.length_map]
      simp only [truD_b]
      by_cases c : d < od.length
      · rw [decide_eq_true (show (d : Int) < (od.length : Int) by omega), if_pos rfl]
        obtain ⟨now, en⟩ : ∃ now, od[d]? = some now := ⟨_, List.getElem?_eq_getElem c⟩
        have hnow := K.sub now (List.mem_of_getElem? en)
        have nnot := take_mem K.nd en
        refine wSs_c ?_
        simp only [wS, wE, wEs, wPs, kysOf, D.ky, wO, wT, wI, Op2.sem, Bi.sem, okS, okB, En.px, List.getElem?_cons_zero, List.getElem?_cons_succ, List.set_cons_zero, List.set_cons_succ, List.map_cons, List.map_nil, List.cons_append, List.nil_append, List.append_nil, Bool.false_eq_true, if_true, if_false, reduceIte]
        rw [ixS_ref (asL_at eo) (atI_nat (d := nD now) (by rw [List.getElem?_map, en]; rfl))]
        refine wG_n ?_
        refine wSs_c ?_
        simp only [wS, wE, wEs, wPs, kysOf, D.ky, wO, wT, wI, Op2.sem, Bi.sem, okS, okB, En.px, List.getElem?_cons_zero, List.getElem?_cons_succ, List.set_cons_zero, List.set_cons_succ, List.map_cons, List.map_nil, List.cons_append, List.nil_append, List.append_nil, Bool.false_eq_true, if_true, if_false, reduceIte]
        refine wSs_c ?_
        simp only [wS, lk_of']
        simp only [wS, wE, wEs, wPs, kysOf, D.ky, wO, wT, wI, Op2.sem, Bi.sem, okS, okB, En.px, List.getElem?_cons_zero, List.getElem?_cons_succ, List.set_cons_zero, List.set_cons_succ, List.map_cons, List.map_nil, List.cons_append, List.nil_append, List.append_nil, Bool.false_eq_true, if_true, if_false, reduceIte]
        rw [ixS_num I.cu hnow]
        dsimp only [srcD]
        rw [asL_at (I.cl now hnow).2]
        dsimp only
        rw [show D.int ((d : Int) + 1) = nD (d + 1) from rfl]
        have hcnt : ∀ u, (us now).count u = if u ∈ ks then (Wn pt inr L u).count now else 0 := c1 now hnow
        have tk1 : od.take (d + 1) = od.take d ++ [now] := take_snoc en
        refine wItems_inv (fun t τ h3 => ∃ (wt2 : Nat → Nat) (od2 : List Nat) (v10 : Option D), KhI h.length h h3 ks ks ua us wt2 ∧ h3[h2.length]? = some (O.lst (od2.map nD)) ∧ KnI ks (Wn pt inr L) wt2 od2 ∧ od <+: od2 ∧ (∀ u ∈ ks, wt2 u + ((us now).take t).count u = wt' u) ∧ τ = [some (.ref a), some (.ref h.length), some (.ref (h.length + 1)), v3, v4, v5, v6, some (.ref h2.length), some (nD (d + 1)), some (nD now), v10])
          (fun t τ h3 ⟨_, _, _, I, _⟩ => asL_at (I.cl now hnow).2) ?_ ?_ ⟨wt', od, _, I, eo, K, List.prefix_refl _, fun u _ => by simp, rfl⟩
        · rintro t dd τ h3 kk ed ⟨wt2, od2, v10, I4, eo4, K4, pp, cw, rfl⟩ hkk
          rw [List.getElem?_map] at ed
          obtain ⟨u, eu, rfl⟩ := Option.map_eq_some_iff.mp ed
          have hpos : 0 < (us now).count u := List.count_pos_iff.mpr (List.mem_of_getElem? eu)
          have hu : u ∈ ks := by
            rw [hcnt] at hpos
            split at hpos
            · next q => exact q
            · omega
          have ct := count_take (p := u) eu
          rw [if_pos rfl] at ct
          have cle : ((us now).take (t + 1)).count u ≤ (us now).count u := (List.take_sublist _ _).count_le _
          have e1 := cw u hu
          have e2 := hw u hu
          have e3 := outs_split nnot (Wn pt inr L u)
          have e4 := hcnt u
          rw [if_pos hu] at e4
          have w1 : 1 ≤ wt2 u := by omega
          have ol2 := K4.len
          refine wG_n ?_
          refine step4 (b := h.length) (Nat.le_refl _) I4 hl hu (by omega) (by omega) (by omega) hou eo4 (by omega) w1 fun h5 I5 eo5 => ?_
          refine hkk _ _ ⟨_, _, _, I5, eo5, K4.step hu w1 (fun q p hp => ?_), ?_, fun x hx => ?_, rfl⟩
          · have z : outs (Wn pt inr L u) (od.take d ++ [now]) = 0 := by omega
            have := outs_zero z p hp
            rw [← tk1] at this
            obtain ⟨tt, rfl⟩ := pp
            exact List.mem_append_left _ (List.mem_of_mem_take this)
          · split
            · exact pp.trans ⟨_, rfl⟩
            · exact pp
          · by_cases cx : x = u
            · subst cx
              rw [uq1_same, ct]; omega
            · rw [uq1_ne cx, count_take eu, if_neg (fun e => cx e.symm)]
              exact cw x hx
        · rintro τ h3 ⟨wt2, od2, v10, I4, eo4, K4, pp, cw, rfl⟩
          rw [List.length_map, List.take_of_length_le (Nat.le_refl _)] at cw
          have pl := pp.length_le
          have ol2 := K4.len
          refine wSs_n (Z := Z) (C := WPc Z B (j + 1)) ⟨ks.length - (d + 1), by omega, wt2, od2, d + 1, _, _, _, I4, eo4, K4, by omega, fun u hu => ?_, rfl, rfl⟩
          have e1 := cw u hu
          have e2 := hw u hu
          have e3 := outs_split nnot (Wn pt inr L u)
          have e4 := hcnt u
          rw [if_pos hu] at e4
          have tk2 : od2.take (d + 1) = od.take (d + 1) := by
            obtain ⟨tt, rfl⟩ := pp
            rw [List.take_append_of_le_length (by omega)]
          rw [tk2, tk1]
          omega
      · rw [decide_eq_false (show ¬ (d : Int) < (od.length : Int) by omega), if_neg (by decide)]
        have dl : d = od.length := by omega
        subst dl
        rw [List.take_of_length_le (Nat.le_refl _)] at hw
        refine wSs_c ?_
        simp only [wS, wE, wEs, wPs, kysOf, D.ky, wO, wT, wI, Op2.sem, Bi.sem, okS, okB, En.px, List.getElem?_cons_zero, List.getElem?_cons_succ, List.set_cons_zero, List.set_cons_succ, List.map_cons, List.map_nil, List.cons_append, List.nil_append, List.append_nil, Bool.false_eq_true, if_true, if_false, reduceIte]
        rw [lenS_ref (asL_at eo)]
        dsimp only
        have ea5 := pre_at I.pre ea
        rw [show lenS h' [.ref a] = some (.int (nK ks f).length, h') from by
          unfold lenS
          dsimp only
          rw [show asK h' (.ref a) = some (nK ks f) from by simp only [asK, ea5]]]
        dsimp only
        rw [eqS_int, nD_beq, List.length_map, nK_len]
        simp only [truD_b]
        by_cases ce : od.length = ks.length
        · rw [decide_eq_true ce, if_pos rfl]
          refine k2 od _ h' I.pre eo K.nd (fun l => ⟨K.sub l, fun hl2 => ?_⟩) K.ord
          by_cases hin : l ∈ od
          · exact hin
          · have := nodup_len (l := l :: od) (m := ks) (List.nodup_cons.mpr ⟨hin, K.nd⟩) fun x hx => by
              rcases List.mem_cons.mp hx with q | q
              · rw [q]; exact hl2
              · exact K.sub x q
            rw [List.length_cons] at this; omega
        · rw [decide_eq_false ce, if_neg (by decide)]
          refine k1 (fun u => u ∈ ks ∧ u ∉ od) ?_ (fun u hu => ⟨hu.1, ?_⟩) h' I.pre
          · apply Classical.byContradiction
            intro hne
            have : ∀ u ∈ ks, u ∈ od := fun u hu => Classical.byContradiction fun q => hne ⟨u, hu, q⟩
            have := nodup_len nd this
            omega
          · have nz : wt' u ≠ 0 := fun q => hu.2 ((K.zero u hu.1).2 q)
            rw [hw u hu.1] at nz
            obtain ⟨p, hp, hpn⟩ := outs_pos nz
            exact ⟨p, hp, wk u hu.1 p hp, hpn⟩
end Mi

set_option Elab.async false
set_option linter.all false
set_option maxRecDepth 100000
set_option maxHeartbeats 4000000
/-! unifying: rows, their sizes, their terms -/
namespace Mi
open PySem PySem.Spec PyProof.Rows L2 Un
/-- a row: a variable, or a name and the numbers of rows ahead -/
inductive Rw where
  | v (z : Wd) | a (n : Wd) (js : List Nat)
def rD : Rw → D
  | .v z => .str z
  | .a n js => .tup [.str n, .tup (js.map nD)]
def tell1 (acc : List Tx) : Rw → Tx
  | .v z => .v z
  | .a n js => .a n (js.map fun j => acc.getD j (.v []))
def tell (rows : List Rw) : List Tx := rows.foldl (fun acc r => acc ++ [tell1 acc r]) []
def szR1 (acc : List Nat) : Rw → Nat
  | .v z => 1
  | .a n js => 1 + (js.map fun j => acc.getD j 0).sum
def szR (rows : List Rw) : List Nat := rows.foldl (fun acc r => acc ++ [szR1 acc r]) []
/-- each speaks of those ahead -/
def OkR (rows : List Rw) : Prop := ∀ (i : Nat) (n : Wd) (js : List Nat), rows[i]? = some (.a n js) → ∀ j ∈ js, j < i
theorem foldl_snoc {α β : Type} (f : List β → α → β) : ∀ (rows : List α) (acc : List β), (rows.foldl (fun acc r => acc ++ [f acc r]) acc).length = acc.length + rows.length
  | [], acc => rfl
  | r :: rows, acc => by
    rw [List.foldl_cons, foldl_snoc f rows, List.length_append, List.length_cons, List.length_nil, List.length_cons]; omega
theorem tell_len (rows : List Rw) : (tell rows).length = rows.length := by unfold tell; rw [foldl_snoc]; simp
theorem szR_len (rows : List Rw) : (szR rows).length = rows.length := by unfold szR; rw [foldl_snoc]; simp
theorem tell_snoc (rows : List Rw) (r : Rw) : tell (rows ++ [r]) = tell rows ++ [tell1 (tell rows) r] := by unfold tell; rw [List.foldl_append]; rfl
theorem szR_snoc (rows : List Rw) (r : Rw) : szR (rows ++ [r]) = szR rows ++ [szR1 (szR rows) r] := by unfold szR; rw [List.foldl_append]; rfl
theorem tell_take {rows : List Rw} {i : Nat} {r : Rw} (e : rows[i]? = some r) : tell (rows.take (i + 1)) = tell (rows.take i) ++ [tell1 (tell (rows.take i)) r] := by rw [take_snoc e, tell_snoc]
theorem szR_take {rows : List Rw} {i : Nat} {r : Rw} (e : rows[i]? = some r) : szR (rows.take (i + 1)) = szR (rows.take i) ++ [szR1 (szR (rows.take i)) r] := by rw [take_snoc e, szR_snoc]
theorem tell_pre {rows : List Rw} {i k : Nat} (h : i ≤ k) : tell (rows.take i) <+: tell (rows.take k) := by
  induction k with
  | zero => rw [show i = 0 from by omega]; exact List.prefix_refl _
  | succ k ih =>
    by_cases c : i = k + 1
    · subst c; exact List.prefix_refl _
    · cases e : rows[k]? with
      | some r => rw [tell_take e]; exact (ih (by omega)).trans ⟨_, rfl⟩
      | none =>
        have := List.getElem?_eq_none_iff.mp e
        have e2 : rows.take (k + 1) = rows.take k := by rw [List.take_of_length_le (by omega), List.take_of_length_le (by omega)]
        rw [e2]
        exact ih (by omega)
theorem getD_pre {α : Type} {l m : List α} {d : α} (p : l <+: m) {j : Nat} (hj : j < l.length) : m.getD j d = l.getD j d := by
  obtain ⟨t, rfl⟩ := p
  rw [List.getD_eq_getElem?_getD, List.getD_eq_getElem?_getD, List.getElem?_append_left hj]
/-- what is told at a place -/
theorem tell_at {rows : List Rw} (hO : OkR rows) {i : Nat} {r : Rw} (e : rows[i]? = some r) : (tell rows)[i]? = some (tell1 (tell rows) r) := by
  have hi := (List.getElem?_eq_some_iff.mp e).1
  have p : tell (rows.take (i + 1)) <+: tell rows := by
    have := tell_pre (rows := rows) (i := i + 1) (k := rows.length) (by omega)
    rwa [List.take_of_length_le (Nat.le_refl _)] at this
  have p0 : tell (rows.take i) <+: tell rows := (by rw [tell_take e]; exact ⟨_, rfl⟩ : tell (rows.take i) <+: tell (rows.take (i + 1))).trans p
  have l0 : (tell (rows.take i)).length = i := by rw [tell_len, List.length_take]; omega
  have e1 : (tell (rows.take (i + 1)))[i]? = some (tell1 (tell (rows.take i)) r) := by
    rw [tell_take e, List.getElem?_append_right (by omega), l0, Nat.sub_self]; rfl
  have e2 := pre_getD p e1
  rw [e2]
  congr 1
  cases r with
  | v z => rfl
  | a n js =>
    show Tx.a n (js.map fun j => (tell (rows.take i)).getD j (.v [])) = Tx.a n (js.map fun j => (tell rows).getD j (.v []))
    congr 1
    exact List.map_congr_left fun j hj => (getD_pre p0 (by rw [l0]; exact hO i n js e j hj)).symm
where
  pre_getD {α : Type} {l m : List α} (p : l <+: m) {i : Nat} {x : α} (e : l[i]? = some x) : m[i]? = some x := by
    obtain ⟨t, rfl⟩ := p
    rw [List.getElem?_append_left (List.getElem?_eq_some_iff.mp e).1]; exact e
theorem szR_tell : ∀ {rows : List Rw}, OkR rows → ∀ i, i ≤ rows.length → szR (rows.take i) = (tell (rows.take i)).map Tx.size := by
  intro rows hO i
  induction i with
  | zero => intro _; rfl
  | succ i ih =>
    intro hi
    obtain ⟨r, e⟩ : ∃ r, rows[i]? = some r := ⟨_, List.getElem?_eq_getElem hi⟩
    rw [szR_take e, tell_take e, List.map_append, ih (by omega)]
    congr 1
    cases r with
    | v z => simp [szR1, tell1, size_v]
    | a n js =>
      rw [List.map_cons, List.map_nil]
      show [1 + (js.map fun j => ((tell (rows.take i)).map Tx.size).getD j 0).sum] = [(Tx.a n (js.map fun j => (tell (rows.take i)).getD j (.v []))).size]
      rw [size_a, List.map_map]
      congr 3
      refine List.map_congr_left fun j hj => ?_
      have hj2 := hO i n js e j hj
      have l0 : (tell (rows.take i)).length = i := by rw [tell_len, List.length_take]; omega
      show List.getD _ j 0 = Tx.size (List.getD _ j (.v []))
      rw [List.getD_eq_getElem?_getD, List.getD_eq_getElem?_getD, List.getElem?_map]
      rw [List.getElem?_eq_getElem (by omega)]; rfl
theorem ixS_at {h : Hh} {a i : Nat} {xs : List D} {d : D} (e : h[a]? = some (.lst xs)) (ed : xs[i]? = some d) : ixS h (.ref a) (nD i) = some (d, h) := ixS_ref (asL_at e) (atI_nat ed)
theorem sum_nD : ∀ l : List Nat, intsD (l.map nD) = some (l.map fun (n : Nat) => (n : Int))
  | [] => rfl
  | n :: l => by
    rw [List.map_cons]
    show intsD (.int (n : Int) :: l.map nD) = _
    unfold intsD
    rw [sum_nD l]; rfl
theorem sum_cast : ∀ l : List Nat, (l.map fun (n : Nat) => (n : Int)).sum = ((l.sum : Nat) : Int)
  | [] => rfl
  | n :: l => by rw [List.map_cons, List.sum_cons, sum_cast l, List.sum_cons]; omega
theorem sumS_nD {h : Hh} {a : Nat} {l : List Nat} (e : h[a]? = some (.lst (l.map nD))) : sumS h [.ref a] = some (nD l.sum, h) := by
  unfold sumS
  dsimp only
  rw [asL_at e, Option.bind_some, sum_nD, Option.map_some, sum_cast]; rfl
theorem tupS_ref {h : Hh} {a : Nat} {xs : List D} (e : h[a]? = some (.lst xs)) : tupleS h [.ref a] = some (.tup xs, h) := by
  unfold tupleS
  dsimp only
  rw [asL_at e]; rfl
section
variable {Z : Zi} {B : List Fd} (hU : HasU B)
include hU
theorem sizes_w {j a : Nat} {rows : List Rw} {h : Hh} {Q : PQ} {Qx : PX} (e : h[a]? = some (.lst (rows.map rD))) (hO : OkR rows) (hl : rows.length ≤ 100000) (ha : ∀ (n : Wd) (js : List Nat), Rw.a n js ∈ rows → js.length ≤ 4)
    (k : ∀ b h', h <+: h' → h'[b]? = some (.lst ((szR rows).map nD)) → Q (.ref b) h') : WPc Z B (j + 1) 1 [.ref a] h Q Qx := by
  unfold WPc
  rw [hU 1 _ rfl]
  refine ⟨rfl, ?_⟩
  show wSs Z _ Uf.b1.body _ [some (.ref a), none, none, none] h
  unfold Uf.b1
  refine wSs_c ?_
  simp only [wS, wE, wEs, wPs, kysOf, D.ky, wO, wT, wI, Op2.sem, Bi.sem, okS, okB, En.px, List.getElem?_cons_zero, List.getElem?_cons_succ, List.set_cons_zero, List.set_cons_succ, List.map_cons, List.map_nil, List.cons_append, List.nil_append, List.append_nil, Bool.false_eq_true, if_true, if_false, reduceIte]
  refine ⟨by rw [sizeLine_eq]; simp, wG_n ?_⟩
  simp only [List.set_cons_succ, List.set_cons_zero]
  have q0 : h <+: h ++ [O.lst []] := pre_snoc (List.prefix_refl _)
  refine wSs_c ?_
  simp only [wS]
  rw [lk_nmL (i := 0) rfl (pre_at q0 e)]
  simp only [wI]
  rw [dctAt_lst (i := 0) rfl (pre_at q0 e)]
  dsimp only [srcD, List.getElem?_cons_zero]
  rw [asL_at (pre_at q0 e)]
  dsimp only
  refine wItems_inv (fun i τ h' => ∃ (v2 v3 : Option D), h <+: h' ∧ h'[h.length]? = some (O.lst ((szR (rows.take i)).map nD)) ∧ τ = [some (.ref a), some (.ref h.length), v2, v3]) (fun i τ h' ⟨_, _, p, _⟩ => asL_at (pre_at p e)) ?_ ?_ ⟨_, _, q0, new_at, rfl⟩
  · rintro i d τ h' kk ed ⟨v2, v3, p, ek, rfl⟩ hkk
    rw [List.getElem?_map] at ed
    obtain ⟨r, er, rfl⟩ := Option.map_eq_some_iff.mp ed
    have hi := (List.getElem?_eq_some_iff.mp er).1
    have l0 : (szR (rows.take i)).length = i := by rw [szR_len, List.length_take]; omega
    refine wG_n ?_
    have fin : ∀ (h2 : Hh), h <+: h2 → h2[h.length]? = some (O.lst ((szR (rows.take i)).map nD)) → mtS .append .lst h2 [.ref h.length, nD (szR1 (szR (rows.take i)) r)] = some (.non, h2.set h.length (.lst ((szR (rows.take (i + 1))).map nD))) := fun h2 p2 e2 => by
      rw [push_at e2 (by rw [List.length_map]; omega), szR_take er, List.map_append]; rfl
    refine wSs_c ?_
    simp only [wS, wE, wEs, wPs, kysOf, D.ky, wO, wT, wI, Op2.sem, Bi.sem, okS, okB, En.px, List.getElem?_cons_zero, List.getElem?_cons_succ, List.set_cons_zero, List.set_cons_succ, List.map_cons, List.map_nil, List.cons_append, List.nil_append, List.append_nil, Bool.false_eq_true, if_true, if_false, reduceIte]
    rw [recT_lst ek]
    refine ⟨rfl, ?_⟩
    cases r with
    | v z =>
      rw [show isiS .str h' (rD (.v z)) = some (.bl true, h') from rfl]
      simp only [truD_b, if_true]
      have := fin h' p ek
      rw [show nD (szR1 (szR (rows.take i)) (.v z)) = .int 1 from rfl] at this
      rw [this]
      exact wSs_n (hkk _ _ ⟨_, _, pre_set p (Nat.le_refl _), set_self ek, rfl⟩)
    | a n js =>
      rw [show isiS .str h' (rD (.a n js)) = some (.bl false, h') from rfl]
      simp only [truD_b, Bool.false_eq_true, if_false]
      simp only [lk_of']
      rw [show ixS h' (rD (.a n js)) (.int 1) = some (.tup (js.map nD), h') from rfl]
      dsimp only [srcD]
      refine wAcc_m (l := js) nD (fun jn => nD ((szR (rows.take i)).getD jn 0)) (fun _ _ => trivial) (fun jn hj q' sk h2 p2 hq => ?_) (by have := ha n js (List.mem_of_getElem? er); omega) fun h2 p2 e2 => ?_
      · simp only [wipeA, List.set_cons_succ, List.set_cons_zero]
        refine wG_n ?_
        simp only [wS, wE, wEs, wPs, kysOf, D.ky, wO, wT, wI, Op2.sem, Bi.sem, okS, okB, En.px, List.getElem?_cons_zero, List.getElem?_cons_succ, List.set_cons_zero, List.set_cons_succ, List.map_cons, List.map_nil, List.cons_append, List.nil_append, List.append_nil, Bool.false_eq_true, if_true, if_false, reduceIte]
        have hj2 := hO i n js er jn hj
        rw [ixS_at (d := nD ((szR (rows.take i)).getD jn 0)) (pre_at p2 ek) (by
          rw [List.getElem?_map, List.getD_eq_getElem?_getD, List.getElem?_eq_getElem (by omega)]; rfl)]
        exact hq _ (List.prefix_refl _)
      · have e3 : h2[h'.length]? = some (O.lst ((js.map fun jn => (szR (rows.take i)).getD jn 0).map nD)) := by rw [e2, List.map_map]; rfl
        rw [sumS_nD e3]
        dsimp only
        rw [show addS h2 (.int 1) (nD (js.map fun jn => (szR (rows.take i)).getD jn 0).sum) = some (nD (szR1 (szR (rows.take i)) (.a n js)), h2) from addS_n (a := 1)]
        dsimp only
        rw [fin h2 (p.trans p2) (pre_at p2 ek)]
        exact wSs_n (hkk _ _ ⟨_, _, pre_set (p.trans p2) (Nat.le_refl _), set_self (pre_at p2 ek), rfl⟩)
  · rintro τ h' ⟨v2, v3, p, ek, rfl⟩
    rw [List.length_map, List.take_of_length_le (Nat.le_refl _)] at ek
    refine wSs_c ?_
    simp only [wS, wE, wEs, wPs, kysOf, D.ky, wO, wT, wI, Op2.sem, Bi.sem, okS, okB, En.px, List.getElem?_cons_zero, List.getElem?_cons_succ, List.set_cons_zero, List.set_cons_succ, List.map_cons, List.map_nil, List.cons_append, List.nil_append, List.append_nil, Bool.false_eq_true, if_true, if_false, reduceIte]
    exact k _ h' p ek
theorem written_w {j a : Nat} {rows : List Rw} {h : Hh} {Q : PQ} {Qx : PX} (e : h[a]? = some (.lst (rows.map rD))) (hO : OkR rows) (hl : rows.length ≤ 100000) (ha : ∀ (n : Wd) (js : List Nat), Rw.a n js ∈ rows → js.length ≤ 4)
    (k : ∀ b h', h <+: h' → h'[b]? = some (.lst ((tell rows).map dT)) → Q (.ref b) h') : WPc Z B (j + 1) 0 [.ref a] h Q Qx := by
  unfold WPc
  rw [hU 0 _ rfl]
  refine ⟨rfl, ?_⟩
  show wSs Z _ Uf.b0.body _ [some (.ref a), none, none, none] h
  unfold Uf.b0
  refine wSs_c ?_
  simp only [wS, wE, wEs, wPs, kysOf, D.ky, wO, wT, wI, Op2.sem, Bi.sem, okS, okB, En.px, List.getElem?_cons_zero, List.getElem?_cons_succ, List.set_cons_zero, List.set_cons_succ, List.map_cons, List.map_nil, List.cons_append, List.nil_append, List.append_nil, Bool.false_eq_true, if_true, if_false, reduceIte]
  refine ⟨by rw [sizeLine_eq]; simp, wG_n ?_⟩
  simp only [List.set_cons_succ, List.set_cons_zero]
  have q0 : h <+: h ++ [O.lst []] := pre_snoc (List.prefix_refl _)
  refine wSs_c ?_
  simp only [wS]
  rw [lk_nmL (i := 0) rfl (pre_at q0 e)]
  simp only [wI]
  rw [dctAt_lst (i := 0) rfl (pre_at q0 e)]
  dsimp only [srcD, List.getElem?_cons_zero]
  rw [asL_at (pre_at q0 e)]
  dsimp only
  refine wItems_inv (fun i τ h' => ∃ (v2 v3 : Option D), h <+: h' ∧ h'[h.length]? = some (O.lst ((tell (rows.take i)).map dT)) ∧ τ = [some (.ref a), some (.ref h.length), v2, v3]) (fun i τ h' ⟨_, _, p, _⟩ => asL_at (pre_at p e)) ?_ ?_ ⟨_, _, q0, new_at, rfl⟩
  · rintro i d τ h' kk ed ⟨v2, v3, p, ek, rfl⟩ hkk
    rw [List.getElem?_map] at ed
    obtain ⟨r, er, rfl⟩ := Option.map_eq_some_iff.mp ed
    have hi := (List.getElem?_eq_some_iff.mp er).1
    have l0 : (tell (rows.take i)).length = i := by rw [tell_len, List.length_take]; omega
    refine wG_n ?_
    have fin : ∀ (h2 : Hh), h <+: h2 → h2[h.length]? = some (O.lst ((tell (rows.take i)).map dT)) → mtS .append .lst h2 [.ref h.length, dT (tell1 (tell (rows.take i)) r)] = some (.non, h2.set h.length (.lst ((tell (rows.take (i + 1))).map dT))) := fun h2 p2 e2 => by
      rw [push_at e2 (by rw [List.length_map]; omega), tell_take er, List.map_append]; rfl
    refine wSs_c ?_
    simp only [wS, wE, wEs, wPs, kysOf, D.ky, wO, wT, wI, Op2.sem, Bi.sem, okS, okB, En.px, List.getElem?_cons_zero, List.getElem?_cons_succ, List.set_cons_zero, List.set_cons_succ, List.map_cons, List.map_nil, List.cons_append, List.nil_append, List.append_nil, Bool.false_eq_true, if_true, if_false, reduceIte]
    cases r with
    | v z =>
      rw [show isiS .str h' (rD (.v z)) = some (.bl true, h') from rfl]
      simp only [truD_b, if_true]
      refine wSs_c ?_
      simp only [wS, wE, wEs, wPs, kysOf, D.ky, wO, wT, wI, Op2.sem, Bi.sem, okS, okB, En.px, List.getElem?_cons_zero, List.getElem?_cons_succ, List.set_cons_zero, List.set_cons_succ, List.map_cons, List.map_nil, List.cons_append, List.nil_append, List.append_nil, Bool.false_eq_true, if_true, if_false, reduceIte]
      rw [recT_lst ek]
      refine ⟨rfl, ?_⟩
      have := fin h' p ek
      rw [show dT (tell1 (tell (rows.take i)) (.v z)) = rD (.v z) from dT_v] at this
      rw [this]
      exact wSs_n (wSs_n (Z := Z) (C := WPc Z B j) (hkk _ _ ⟨_, _, pre_set p (Nat.le_refl _), set_self ek, rfl⟩))
    | a n js =>
      rw [show isiS .str h' (rD (.a n js)) = some (.bl false, h') from rfl]
      simp only [truD_b, Bool.false_eq_true, if_false]
      refine wSs_c ?_
      simp only [wS, wE, wEs, wPs, kysOf, D.ky, wO, wT, wI, Op2.sem, Bi.sem, okS, okB, En.px, List.getElem?_cons_zero, List.getElem?_cons_succ, List.set_cons_zero, List.set_cons_succ, List.map_cons, List.map_nil, List.cons_append, List.nil_append, List.append_nil, Bool.false_eq_true, if_true, if_false, reduceIte]
      rw [recT_lst ek]
      refine ⟨rfl, ?_⟩
      rw [show ixS h' (rD (.a n js)) (.int 0) = some (.str n, h') from rfl]
      simp only [lk_of']
      rw [show ixS h' (rD (.a n js)) (.int 1) = some (.tup (js.map nD), h') from rfl]
      dsimp only [srcD]
      refine wAcc_m (l := js) nD (fun jn => dT ((tell (rows.take i)).getD jn (.v []))) (fun _ _ => trivial) (fun jn hj q' sk h2 p2 hq => ?_) (by have := ha n js (List.mem_of_getElem? er); omega) fun h2 p2 e2 => ?_
      · simp only [wipeA, List.set_cons_succ, List.set_cons_zero]
        refine wG_n ?_
        simp only [wS, wE, wEs, wPs, kysOf, D.ky, wO, wT, wI, Op2.sem, Bi.sem, okS, okB, En.px, List.getElem?_cons_zero, List.getElem?_cons_succ, List.set_cons_zero, List.set_cons_succ, List.map_cons, List.map_nil, List.cons_append, List.nil_append, List.append_nil, Bool.false_eq_true, if_true, if_false, reduceIte]
        have hj2 := hO i n js er jn hj
        rw [ixS_at (d := dT ((tell (rows.take i)).getD jn (.v []))) (pre_at p2 ek) (by
          rw [List.getElem?_map, List.getD_eq_getElem?_getD, List.getElem?_eq_getElem (by omega)]; rfl)]
        exact hq _ (List.prefix_refl _)
      · rw [tupS_ref e2]
        refine ⟨by rw [sizeLine_eq]; simp, ?_⟩
        have := fin h2 (p.trans p2) (pre_at p2 ek)
        rw [show dT (tell1 (tell (rows.take i)) (.a n js)) = .tup [.str n, .tup (js.map fun jn => dT ((tell (rows.take i)).getD jn (.v [])))] from by
          unfold tell1
          rw [dT_a, List.map_map]; rfl] at this
        rw [this]
        exact wSs_n (wSs_n (Z := Z) (C := WPc Z B j) (hkk _ _ ⟨_, _, pre_set (p.trans p2) (Nat.le_refl _), set_self (pre_at p2 ek), rfl⟩))
  · rintro τ h' ⟨v2, v3, p, ek, rfl⟩
    rw [List.length_map, List.take_of_length_le (Nat.le_refl _)] at ek
    refine wSs_c ?_
    simp only [wS, wE, wEs, wPs, kysOf, D.ky, wO, wT, wI, Op2.sem, Bi.sem, okS, okB, En.px, List.getElem?_cons_zero, List.getElem?_cons_succ, List.set_cons_zero, List.set_cons_succ, List.map_cons, List.map_nil, List.cons_append, List.nil_append, List.append_nil, Bool.false_eq_true, if_true, if_false, reduceIte]
    exact k _ h' p ek
end
end Mi

set_option Elab.async false
set_option linter.all false
set_option maxRecDepth 100000
set_option maxHeartbeats 4000000
/-! unifying: what the last step wants: tests, dicts of words, places, what is told -/
namespace Mi
open PySem PySem.Spec PyProof.Rows L2 Un
/-- tests that tell one side alone -/
theorem wAcc_bl {α : Type} {g : Hh → Prop} {h0 : Hh} {elt : D → PQ → (Hh → Prop) → Hh → Prop} {k : Hh → Prop} (G : α → D) (T : α → Prop) (hg : ∀ h, h0 <+: h → g h) : ∀ {l : List α} {h : Hh} {acc : List Bool},
    (∀ x ∈ l, ∀ q sk h', h0 <+: h' → (∀ (r : Bool) h'', (r = true → T x) → h' <+: h'' → q (.bl r) h'') → elt (G x) q sk h') →
    h0 <+: h → h[h0.length]? = some (.lst (acc.map D.bl)) → acc.length + l.length ≤ 1000000 → (∀ (bs : List Bool) h', h0 <+: h' → h'[h0.length]? = some (.lst ((acc ++ bs).map D.bl)) → (bs.any id = true → ∃ x ∈ l, T x) → k h') → wAcc g h0.length elt k (l.map G) h
  | [], h, acc, he, p, ha, hl, hk => ⟨hg h p, hk [] h p (by simpa using ha) (fun e => by cases e)⟩
  | d :: ds, h, acc, he, p, ha, hl, hk => by
    refine ⟨hg h p, he d List.mem_cons_self _ _ h p fun r h'' ht p2 => ?_⟩
    have ha2 := pre_at p2 ha
    rw [ha2]
    refine ⟨by rw [sizeLine_eq, List.length_map]; simp only [List.length_cons] at hl; omega, ?_⟩
    refine wAcc_bl (acc := acc ++ [r]) G T hg (fun d' hd' => he d' (List.mem_cons_of_mem _ hd')) (pre_set (p.trans p2) (Nat.le_refl _)) (by rw [List.map_append]; exact set_self ha2) (by simp only [List.length_append, List.length_cons, List.length_nil] at hl ⊢; omega) fun bs h' p' ha' hb => hk (r :: bs) h' p' (by rw [ha', List.append_assoc]; rfl) fun e => ?_
    cases r with
    | true => exact ⟨d, List.mem_cons_self, ht rfl⟩
    | false =>
      obtain ⟨x, hx, tx⟩ := hb (by simpa using e)
      exact ⟨x, List.mem_cons_of_mem _ hx, tx⟩
/-- a dict of words -/
def sK (ks : List Wd) (f : Wd → D) : List (Ky × D) := ks.map fun (l : Wd) => (Ky.s l, f l)
theorem getKd_sK : ∀ {ks : List Wd} {f : Wd → D} {l : Wd}, getKd (sK ks f) (.s l) = if l ∈ ks then some (f l) else none
  | [], f, l => rfl
  | k :: ks, f, l => by
    show getKd ((Ky.s k, f k) :: sK ks f) _ = _
    unfold getKd
    by_cases c : k = l
    · subst c
      rw [if_pos rfl, if_pos List.mem_cons_self]
    · rw [if_neg (fun e => c (Ky.s.inj e)), getKd_sK]
      by_cases c2 : l ∈ ks
      · rw [if_pos c2, if_pos (List.mem_cons_of_mem _ c2)]
      · rw [if_neg c2, if_neg (fun e => (List.mem_cons.mp e).elim (fun e => c e.symm) c2)]
theorem repKd_sK : ∀ {ks : List Wd} {f : Wd → D} {l : Wd}, repKd (sK ks f) (.s l) (f l) = sK ks f
  | [], f, l => rfl
  | k :: ks, f, l => by
    show repKd ((Ky.s k, f k) :: sK ks f) _ _ = (Ky.s k, f k) :: sK ks f
    unfold repKd
    rw [repKd_sK]
    congr 1
    by_cases c : k = l
    · subst c; rw [if_pos rfl]
    · rw [if_neg (fun e => c (Ky.s.inj e))]
theorem putKd_sK {ks : List Wd} {f : Wd → D} {l : Wd} : putKd (sK ks f) (.s l) (f l) = sK (if l ∈ ks then ks else ks ++ [l]) f := by
  unfold putKd
  rw [getKd_sK]
  by_cases c : l ∈ ks
  · rw [if_pos c, if_pos (by rfl), if_pos c, repKd_sK]
  · rw [if_neg c, if_neg (by decide), if_neg c]
    unfold sK
    rw [List.map_append]; rfl
theorem merge_sK {f : Wd → D} : ∀ (l : List Wd) {ks : List Wd}, ks.Nodup → ∃ ks', mergeKd (sK ks f) (l.map fun x => (Ky.s x, f x)) = sK ks' f ∧ ks'.Nodup ∧ ∀ x, x ∈ ks' ↔ x ∈ ks ∨ x ∈ l
  | [], ks, nd => ⟨ks, rfl, nd, fun x => by simp⟩
  | y :: l, ks, nd => by
    have nd2 : (if y ∈ ks then ks else ks ++ [y]).Nodup := by
      split
      · exact nd
      · next hn => exact List.nodup_append.mpr ⟨nd, List.nodup_cons.mpr ⟨by simp, List.nodup_nil⟩, fun a ha b hb e => by rw [List.mem_singleton.mp hb] at e; rw [e] at ha; exact hn ha⟩
    obtain ⟨ks', e1, e2, e3⟩ := merge_sK l nd2
    refine ⟨ks', ?_, e2, fun x => ?_⟩
    · rw [← e1, ← putKd_sK]; rfl
    · rw [e3]
      by_cases c : y ∈ ks
      · rw [if_pos c, List.mem_cons]
        constructor
        · rintro (a | a)
          · exact .inl a
          · exact .inr (.inr a)
        · rintro (a | a | a)
          · exact .inl a
          · rw [a]; exact .inl c
          · exact .inr a
      · rw [if_neg c, List.mem_append, List.mem_singleton, List.mem_cons, or_assoc]
theorem sK_len {ks : List Wd} {f : Wd → D} : (sK ks f).length = ks.length := by unfold sK; rw [List.length_map]
/-! ### places -/
theorem idx_at : ∀ {od : List Nat} {i l : Nat}, od.Nodup → od[i]? = some l → od.idxOf l = i
  | x :: od, 0, l, nd, e => by
    cases e
    exact List.idxOf_cons_self
  | x :: od, i + 1, l, nd, e => by
    have e' : od[i]? = some l := e
    have nd' := List.nodup_cons.mp nd
    have hx : x ≠ l := fun q => nd'.1 (by rw [q]; exact List.mem_of_getElem? e')
    rw [List.idxOf_cons, show (x == l) = false from beq_eq_false_iff_ne.mpr hx, cond_false, idx_at nd'.2 e']
theorem idx_lt {od : List Nat} {l : Nat} (h : l ∈ od) : od[od.idxOf l]? = some l := by
  have hl := List.idxOf_lt_length_of_mem h
  rw [List.getElem?_eq_getElem hl, List.getElem_idxOf]
theorem places_eq {od : List Nat} (nd : od.Nodup) : ∀ n, n ≤ od.length → mergeKd [] ((List.range n).map fun i => (Ky.i ((od.getD i 0 : Nat) : Int), nD i)) = nK (od.take n) (fun l => nD (od.idxOf l))
  | 0, _ => rfl
  | n + 1, h => by
    obtain ⟨l, e⟩ : ∃ l, od[n]? = some l := ⟨_, List.getElem?_eq_getElem h⟩
    have ih := places_eq nd n (by omega)
    unfold mergeKd at ih ⊢
    rw [List.range_succ, List.map_append, List.foldl_append, ih, take_snoc e]
    show putKd (nK (od.take n) fun l => nD (od.idxOf l)) (.i ((od.getD n 0 : Nat) : Int)) (nD n) = _
    rw [List.getD_eq_getElem?_getD, e, Option.getD_some, putKd_nK, if_neg (take_mem nd e)]
    congr 1
    funext x
    unfold upD
    split
    · next c => rw [c, idx_at nd e]
    · rfl
/-! ### what is told -/
/-- the row of a class -/
def rowOf (pt : Nat → Tx) (inr : Nat → List Nat) (L : Nat → Nat) (zf : Nat → Wd) (od : List Nat) (l : Nat) : Rw := match pt l with
  | .v _ => .v (zf l)
  | .a n _ => .a n ((inr l).map fun j => od.idxOf (L j))
theorem told_of {P : Uprs} {N : Nat} {pt : Nat → Tx} {inr : Nat → List Nat} {L : Nat → Nat} {zf : Nat → Wd} {od ks : List Nat} (C : Cls P N pt inr L) (hk : ∀ l, l ∈ ks ↔ ∃ i, i < N ∧ L i = l) (ho : ∀ l, l ∈ od ↔ l ∈ ks) (nd : od.Nodup) (ord : ∀ (i u : Nat), od[i]? = some u → ∀ p ∈ Wn pt inr L u, p ∈ od.take i)
    (hz : ∀ l x, l ∈ ks → pt l = .v x → (∃ i, i < N ∧ L i = l ∧ pt i = .v (zf l)) ∧ ∀ i y, i < N → L i = l → pt i = .v y → zf l ≤ y) :
    OkR (od.map (rowOf pt inr L zf od)) ∧ Told N pt inr L (fun l => (tell (od.map (rowOf pt inr L zf od))).getD (od.idxOf l) (.v [])) od.idxOf := by
  have rk : ∀ l n us, l ∈ od → pt l = .a n us → ∀ j ∈ inr l, od.idxOf (L j) < od.idxOf l := fun l n us hl e j hj => by
    have h1 := idx_lt hl
    have := ord _ _ h1 (L j) (by unfold Wn; rw [e]; exact List.mem_map_of_mem hj)
    obtain ⟨i, hi⟩ := List.getElem?_of_mem this
    have hi' := (List.getElem?_eq_some_iff.mp hi).1
    rw [List.length_take] at hi'
    rw [List.getElem?_take] at hi
    split at hi
    · rw [idx_at nd hi]; omega
    · cases hi
  have hO : OkR (od.map (rowOf pt inr L zf od)) := fun i n js e j hj => by
    rw [List.getElem?_map] at e
    obtain ⟨l, el, er⟩ := Option.map_eq_some_iff.mp e
    unfold rowOf at er
    cases hp : pt l with
    | v x => rw [hp] at er; cases er
    | a m us =>
      rw [hp] at er
      cases er
      obtain ⟨j', hj', rfl⟩ := List.mem_map.mp hj
      have := rk l n us (List.mem_of_getElem? el) hp j' hj'
      rw [idx_at nd el] at this
      exact this
  have at_ : ∀ l, l < N → L l = l → (tell (od.map (rowOf pt inr L zf od)))[od.idxOf l]? = some (tell1 (tell (od.map (rowOf pt inr L zf od))) (rowOf pt inr L zf od l)) := fun l hl top => by
    have hm : l ∈ od := (ho l).2 ((hk l).2 ⟨l, hl, top⟩)
    refine tell_at hO ?_
    rw [List.getElem?_map, idx_lt hm]; rfl
  refine ⟨hO, ⟨fun l hl top x e => ?_, fun l hl top n ts e => ?_⟩⟩
  · have hm : l ∈ ks := (hk l).2 ⟨l, hl, top⟩
    have a := at_ l hl top
    rw [show rowOf pt inr L zf od l = .v (zf l) from by unfold rowOf; rw [e]] at a
    obtain ⟨z1, z2⟩ := hz l x hm e
    refine ⟨zf l, ?_, z1, z2⟩
    rw [List.getD_eq_getElem?_getD, a]; rfl
  · have hm : l ∈ od := (ho l).2 ((hk l).2 ⟨l, hl, top⟩)
    have a := at_ l hl top
    rw [show rowOf pt inr L zf od l = .a n ((inr l).map fun j => od.idxOf (L j)) from by unfold rowOf; rw [e]] at a
    refine ⟨?_, rk l n ts hm e⟩
    rw [List.getD_eq_getElem?_getD, a, Option.getD_some]
    show Tx.a n (((inr l).map fun j => od.idxOf (L j)).map fun j => (tell (od.map (rowOf pt inr L zf od))).getD j (.v [])) = _
    rw [List.map_map]; rfl
end Mi

set_option Elab.async false
set_option linter.all false
set_option maxRecDepth 100000
set_option maxHeartbeats 4000000
/-! unifying: merged_rows: the parts of the terms -/
namespace Mi
open PySem PySem.Spec PyProof.Rows L2 Un
/-- the terms of the pairs, one behind the other -/
def flP (P : Uprs) : List Tx := P.flatMap fun p => [p.1, p.2]
def smP (n : Nat) : List (Nat × Nat) := (List.range n).map fun k => (2 * k, 2 * k + 1)
theorem flP_at : ∀ {P : Uprs} {k : Nat} {p : Tx × Tx}, P[k]? = some p → (flP P)[2 * k]? = some p.1 ∧ (flP P)[2 * k + 1]? = some p.2
  | q :: P, 0, p, e => by cases e; exact ⟨rfl, rfl⟩
  | q :: P, k + 1, p, e => by
    have := flP_at (P := P) (k := k) (p := p) e
    unfold flP at this ⊢
    rw [List.flatMap_cons]
    exact this
theorem flP_len : ∀ P : Uprs, (flP P).length = 2 * P.length
  | [] => rfl
  | q :: P => by
    have := flP_len P
    unfold flP at this ⊢
    rw [List.flatMap_cons, List.length_append, this, List.length_cons]
    simp; omega
theorem flP_mem {P : Uprs} {t : Tx} : t ∈ flP P ↔ ∃ p ∈ P, t = p.1 ∨ t = p.2 := by
  unfold flP
  rw [List.mem_flatMap]
  simp
theorem vs_mem {P : Uprs} {x : Wd} : x ∈ Vs P ↔ ∃ t ∈ flP P, x ∈ t.vars := by
  unfold Vs
  rw [List.mem_flatMap]
  constructor
  · rintro ⟨p, hp, hx⟩
    rcases List.mem_append.mp hx with h | h
    · exact ⟨p.1, flP_mem.2 ⟨p, hp, .inl rfl⟩, h⟩
    · exact ⟨p.2, flP_mem.2 ⟨p, hp, .inr rfl⟩, h⟩
  · rintro ⟨t, ht, hx⟩
    obtain ⟨p, hp, h⟩ := flP_mem.1 ht
    refine ⟨p, hp, List.mem_append.mpr ?_⟩
    rcases h with rfl | rfl
    · exact .inl hx
    · exact .inr hx
/-- what is known of the parts -/
theorem parts_of {P : Uprs} {h h' : Hh} {ps : List Tx} {ins : List (Nat × List Nat)} {kn : List (Ky × D)} (I : NumI h h' (flP P) ps ins kn) (el : ins.length = ps.length) :
    Parts h' h.length (h.length + 1) ps.length (fun i => ps.getD i (.v [])) (fun i => (ins.getD i (0, [])).1) (fun i => (ins.getD i (0, [])).2) ∧
    Prt P ps.length (fun i => ps.getD i (.v [])) (fun i => (ins.getD i (0, [])).2) ∧
    (∀ i, i < ps.length → (ins.getD i (0, [])).2.length = (subT (ps.getD i (.v []))).length) ∧ ∀ i, i < (flP P).length → (flP P)[i]? = some (ps.getD i (.v [])) := by
  have gp : ∀ i, i < ps.length → ps[i]? = some (ps.getD i (.v [])) := fun i hi => by rw [List.getD_eq_getElem?_getD, List.getElem?_eq_getElem hi]; rfl
  have gi : ∀ i, i < ps.length → ins[i]? = some (ins.getD i (0, [])) := fun i hi => by rw [List.getD_eq_getElem?_getD, List.getElem?_eq_getElem (by omega)]; rfl
  have inn : ∀ i, i < ps.length → (ins.getD i (0, [])).2.map (fun j => ps[j]?) = (subT (ps.getD i (.v []))).map some := fun i hi => by
    obtain ⟨_, _, t, et, e⟩ := I.inn i _ (gi i hi)
    rw [gp i hi] at et
    cases et
    exact e
  have lens : ∀ i, i < ps.length → (ins.getD i (0, [])).2.length = (subT (ps.getD i (.v []))).length := fun i hi => by
    have := congrArg List.length (inn i hi)
    simpa using this
  have each : ∀ i, i < ps.length → ∀ (k j : Nat), (ins.getD i (0, [])).2[k]? = some j → j < ps.length ∧ (subT (ps.getD i (.v [])))[k]? = some (ps.getD j (.v [])) := fun i hi k j e => by
    have := congrArg (fun l => l[k]?) (inn i hi)
    rw [List.getElem?_map, List.getElem?_map, e, Option.map_some] at this
    cases es : (subT (ps.getD i (.v [])))[k]? with
    | none => rw [es] at this; cases this
    | some u =>
      rw [es, Option.map_some] at this
      have e2 : ps[j]? = some u := Option.some.inj this
      have hj := (List.getElem?_eq_some_iff.mp e2).1
      rw [gp j hj] at e2
      exact ⟨hj, by rw [e2]⟩
  have mp : ∀ i, i < ps.length → (ins.getD i (0, [])).2.map (fun i => ps.getD i (.v [])) = subT (ps.getD i (.v [])) := fun i hi => by
    apply List.ext_getElem?
    intro k
    rw [List.getElem?_map]
    cases e : (ins.getD i (0, [])).2[k]? with
    | none =>
      have := List.getElem?_eq_none_iff.mp e
      rw [lens i hi] at this
      rw [List.getElem?_eq_none this]; rfl
    | some j => rw [(each i hi k j e).2]; rfl
  refine ⟨⟨?_, ?_, fun i hi => (I.inn i _ (gi i hi)).2.1⟩, ⟨fun i hi n ts e => ?_, fun x => ?_⟩, lens, fun i hi => ?_⟩
  · rw [I.cp]
    congr 2
    apply List.ext_getElem?
    intro i
    rw [List.getElem?_map]
    by_cases hi : i < ps.length
    · rw [fnD_get hi, gp i hi]; rfl
    · rw [List.getElem?_eq_none (by omega), List.getElem?_eq_none (by rw [fnD_len]; omega)]; rfl
  · rw [I.cq]
    congr 2
    apply List.ext_getElem?
    intro i
    rw [List.getElem?_map]
    by_cases hi : i < ps.length
    · rw [fnD_get hi, gi i hi]; rfl
    · rw [List.getElem?_eq_none (by omega), List.getElem?_eq_none (by rw [fnD_len]; omega)]; rfl
  · have m := mp i hi
    rw [e] at m
    refine ⟨m, fun j hj => ?_⟩
    obtain ⟨k, hk⟩ := List.getElem?_of_mem hj
    exact (each i hi k j hk).1
  · constructor
    · intro hx
      obtain ⟨t, ht, hx⟩ := vs_mem.1 hx
      obtain ⟨k, hk⟩ := List.getElem?_of_mem ht
      have : ∀ t : Tx, x ∈ t.vars → ∀ i, i < ps.length → ps.getD i (.v []) = t → ∃ i, i < ps.length ∧ ps.getD i (.v []) = .v x := by
        apply Tx.ind
        · intro y hy i hi e
          rw [vars_v, List.mem_singleton] at hy
          exact ⟨i, hi, by rw [e, hy]⟩
        · intro n ts ih hy i hi e
          rw [vars_a] at hy
          obtain ⟨u, hu, hx⟩ := List.mem_flatMap.mp hy
          have m := mp i hi
          rw [e] at m
          rw [show subT (.a n ts) = ts from rfl] at m
          rw [← m] at hu
          obtain ⟨j, hj, rfl⟩ := List.mem_map.mp hu
          obtain ⟨k, hk⟩ := List.getElem?_of_mem hj
          have hj2 := (each i hi k j hk).1
          refine ih _ ?_ hx j hj2 rfl
          rw [← m]
          exact List.mem_map_of_mem hj
      have hk2 : ps[k]? = some t := by
        obtain ⟨tt, e⟩ := I.tsp
        rw [← e, List.getElem?_append_left (List.getElem?_eq_some_iff.mp hk).1]; exact hk
      have hk3 := (List.getElem?_eq_some_iff.mp hk2).1
      refine this t hx k hk3 ?_
      rw [gp k hk3] at hk2
      exact Option.some.inj hk2
    · rintro ⟨i, hi, e⟩
      have := (I.wf _ (List.mem_of_getElem? (gp i hi))).2 x (by rw [e, vars_v]; exact List.mem_singleton_self x)
      exact vs_mem.2 this
  · obtain ⟨tt, e⟩ := I.tsp
    have hp : i < ps.length := by rw [← e, List.length_append]; omega
    rw [← gp i hp, ← e, List.getElem?_append_left hi]
end Mi

set_option Elab.async false
set_option linter.all false
set_option maxRecDepth 100000
set_option maxHeartbeats 4000000
/-! unifying: merged_rows, its single steps -/
namespace Mi
open PySem PySem.Spec PyProof.Rows L2 Un
theorem anyS_bl {h : Hh} {a : Nat} {bs : List Bool} (e : h[a]? = some (.lst (bs.map D.bl))) : anyS h [.ref a] = some (.bl (bs.any id), h) := by
  have := anyS_map (l := bs) (f := id) e
  exact this
section
variable {Z : Zi} {C : Cal} {h : Hh} {Q : PQ} {Qx : PX} {τ : Sl}
/-- {x: k for k, x in enumerate(od)} -/
theorem placesE_w {i k v o : Nat} {od : List Nat} (e : τ[i]? = some (some (.ref o))) (eo : h[o]? = some (.lst (od.map nD))) (nd : od.Nodup) (hl : od.length ≤ 100000) (hkv : k ≠ v) (hk : k < τ.length) (hv : v < τ.length)
    (hq : ∀ h', h <+: h' → h'[h.length]? = some (.dct false (nK od fun l => nD (od.idxOf l))) → Q (.ref h.length) h') :
    wE Z C (.dc (.t (.cons (.n k) (.cons (.n v) .nil))) (.en (.v i)) .no (.v v) (.v k) [k, v]) Q Qx τ h := by
  simp only [wE, lk_en, wI, e]
  rw [asL_at eo]
  dsimp only
  have ef : od.map nD = fnD od.length fun i => nD (od.getD i 0) := by
    apply List.ext_getElem?
    intro i
    rw [List.getElem?_map]
    by_cases hi : i < od.length
    · rw [fnD_get hi, List.getD_eq_getElem?_getD, List.getElem?_eq_getElem hi]; rfl
    · rw [List.getElem?_eq_none (by omega), List.getElem?_eq_none (by rw [fnD_len]; omega)]; rfl
  rw [ef, enum_fn]
  refine wAccD_xs (h0 := h) (l := List.range od.length) (acc := []) (fun i => .tup [nD i, nD (od.getD i 0)]) (fun i => some (.i ((od.getD i 0 : Nat) : Int), nD i)) (fun h2 p2 => by rw [← ef]; exact asL_at (pre_at p2 eo)) (fun i hi q sk h2 p2 hq _ => ?_) (pre_snoc (List.prefix_refl _)) new_at (by simp; omega) fun h2 p2 e2 => ?_
  · refine wG_2 ?_
    simp only [wT, if_true, wE]
    have w1 : ((((wipeA τ [k, v]).set k (some (nD i))).set v (some (nD (od.getD i 0))))[v]?) = some (some (nD (od.getD i 0))) := by
      rw [List.getElem?_set_self (by simp [wipeA]; exact hv)]
    have w2 : ((((wipeA τ [k, v]).set k (some (nD i))).set v (some (nD (od.getD i 0))))[k]?) = some (some (nD i)) := by
      rw [List.getElem?_set_ne (Ne.symm hkv), List.getElem?_set_self (by simp [wipeA]; exact hk)]
    rw [w1]
    dsimp only
    rw [w2]
    exact hq _ rfl _ (List.prefix_refl _)
  · refine hq h2 p2 ?_
    rw [e2]
    have := places_eq nd od.length (Nat.le_refl _)
    rw [List.take_of_length_le (Nat.le_refl _)] at this
    rw [← this, filterMap_some]
end
section
variable {Z : Zi} {B : List Fd} (hU : HasU B)
include hU
theorem row_w {j N lo l m : Nat} {pt : Nat → Tx} {inr : Nat → List Nat} {L : Nat → Nat} {zf : Nat → Wd} {od : List Nat} {d : D} {lk : Bool} {h : Hh} {Q : PQ} {Qx : PX} (c : ClsV h N pt inr L lo N l d) (hz : ∀ z, d = .str z → zf l = z) (em : h[m]? = some (.dct lk (nK od fun l => nD (od.idxOf l)))) (wk : ∀ p ∈ Wn pt inr L l, p ∈ od) (w4 : (Wn pt inr L l).length ≤ 4)
    (k : ∀ h', h <+: h' → Q (rD (rowOf pt inr L zf od l)) h') : WPc Z B (j + 1) 22 [d, .ref m] h Q Qx := by
  unfold WPc
  rw [hU 22 _ rfl]
  refine ⟨rfl, ?_⟩
  show wSs Z _ Uf.b22.body _ [some d, some (.ref m), none] h
  unfold Uf.b22
  unfold ClsV at c
  unfold rowOf at k
  unfold Wn at wk w4
  refine wSs_c ?_
  simp only [wS, wE, wEs, wPs, kysOf, D.ky, wO, wT, wI, Op2.sem, Bi.sem, okS, okB, En.px, List.getElem?_cons_zero, List.getElem?_cons_succ, List.set_cons_zero, List.set_cons_succ, List.map_cons, List.map_nil, List.cons_append, List.nil_append, List.append_nil, Bool.false_eq_true, if_true, if_false, reduceIte]
  cases hp : pt l with
  | v x =>
    rw [hp] at c k
    obtain ⟨z, rfl, _⟩ := c
    rw [show isiS .str h (.str z) = some (.bl true, h) from rfl]
    simp only [truD_b, if_true]
    have := k h (List.prefix_refl _)
    dsimp only at this
    rw [hz z rfl] at this
    exact this
  | a n us =>
    rw [hp] at c k wk w4
    dsimp only at wk w4
    rw [List.length_map] at w4
    obtain ⟨r, rfl, _, er⟩ := c
    rw [show isiS .str h (.tup [.str n, .ref r]) = some (.bl false, h) from rfl]
    simp only [truD_b, Bool.false_eq_true, if_false]
    rw [show ixS h (.tup [.str n, .ref r]) (.int 0) = some (.str n, h) from rfl]
    simp only [lk_of']
    rw [show ixS h (.tup [.str n, .ref r]) (.int 1) = some (.ref r, h) from rfl]
    dsimp only [srcD]
    rw [asL_at er]
    dsimp only
    refine wAcc_m (l := inr l) (fun j => nD (L j)) (fun j => nD (od.idxOf (L j))) (fun h2 p2 => asL_at (pre_at p2 er)) (fun jn hj q' sk h2 p2 hq => ?_) (by omega) fun h2 p2 e2 => ?_
    · simp only [wipeA, List.set_cons_succ, List.set_cons_zero]
      refine wG_n ?_
      simp only [wS, wE, wEs, wPs, kysOf, D.ky, wO, wT, wI, Op2.sem, Bi.sem, okS, okB, En.px, List.getElem?_cons_zero, List.getElem?_cons_succ, List.set_cons_zero, List.set_cons_succ, List.map_cons, List.map_nil, List.cons_append, List.nil_append, List.append_nil, Bool.false_eq_true, if_true, if_false, reduceIte]
      rw [ixS_num (pre_at p2 em) (wk _ (List.mem_map_of_mem hj))]
      exact hq _ (List.prefix_refl _)
    · rw [tupS_ref e2]
      refine ⟨by rw [sizeLine_eq]; simp, ?_⟩
      have := k h2 p2
      dsimp only [rD] at this
      rw [List.map_map] at this
      exact this
end
/-- a choice that tells the rows of the variables -/
theorem hm_of {P : Uprs} {N : Nat} {pt : Nat → Tx} {inr : Nat → List Nat} {L : Nat → Nat} (C : Cls P N pt inr L) (g : Nat → Nat) : ∃ hm : Wd → Nat, ∀ i x, i < N → pt i = .v x → hm x = g (L i) := by
  classical
  refine ⟨fun x => if h : ∃ i, i < N ∧ pt i = .v x then g (L h.choose) else 0, fun i x hi e => ?_⟩
  have h : ∃ i, i < N ∧ pt i = .v x := ⟨i, hi, e⟩
  dsimp only
  rw [dif_pos h, C.one _ _ x h.choose_spec.1 hi h.choose_spec.2 e]
section
variable {Z : Zi} {C' : Cal} {h : Hh} {Q : PQ} {Qx : PX} {τ : Sl}
/-- the rows of the variables -/
theorem homes_w {P : Uprs} {N p q l m : Nat} {pt : Nat → Tx} {inr : Nat → List Nat} {ia : Nat → Nat} {L : Nat → Nat} {od : List Nat} (C : Cls P N pt inr L) (RP : Parts h p q N pt ia inr) (hN : N ≤ 100000) (e5 : τ[5]? = some (some (.ref p))) (e7 : τ[7]? = some (some (.ref l))) (e10 : τ[10]? = some (some (.ref m))) (ht : τ.length = 18)
    (eL : h[l]? = some (.lst (fnD N fun i => nD (L i)))) (em : h[m]? = some (.dct false (nK od fun l => nD (od.idxOf l)))) (ho : ∀ i, i < N → L i ∈ od) {hm : Wd → Nat} (hh : ∀ i x, i < N → pt i = .v x → hm x = od.idxOf (L i))
    (hq : ∀ xs h', h <+: h' → h'[h.length]? = some (.dct false (sK xs fun x => nD (hm x))) → xs.Nodup → (∀ x, x ∈ xs ↔ ∃ i, i < N ∧ pt i = .v x) → Q (.ref h.length) h') :
    wE Z C' (.dc (.t (.cons (.n 15) (.cons (.n 16) .nil))) (.en (.v 5)) (.so (.isi .str (.v 16))) (.v 16) (.op .ix (.v 10) (.op .ix (.v 7) (.v 15))) [15, 16]) Q Qx τ h := by
  simp only [wE, lk_en, wI, e5]
  rw [asL_at RP.cp]
  dsimp only
  rw [enum_fn]
  refine wAccD_xs (h0 := h) (l := List.range N) (acc := []) (fun i => .tup [nD i, dT (pt i)]) (fun i => match pt i with
    | .v x => some (.s x, nD (od.idxOf (L i)))
    | _ => none) (fun h2 p2 => asL_at (pre_at p2 RP.cp)) (fun i hi q' sk h2 p2 hq' hsk => ?_) (pre_snoc (List.prefix_refl _)) new_at (by simp; omega) fun h2 p2 e2 => ?_
  · have hi : i < N := List.mem_range.mp hi
    refine wG_2 ?_
    have w16 : ((((wipeA τ [15, 16]).set 15 (some (nD i))).set 16 (some (dT (pt i))))[16]?) = some (some (dT (pt i))) := by
      rw [List.getElem?_set_self (by simp [wipeA]; omega)]
    have w15 : ((((wipeA τ [15, 16]).set 15 (some (nD i))).set 16 (some (dT (pt i))))[15]?) = some (some (nD i)) := by
      rw [List.getElem?_set_ne (by decide), List.getElem?_set_self (by simp [wipeA]; omega)]
    have w7 : ((((wipeA τ [15, 16]).set 15 (some (nD i))).set 16 (some (dT (pt i))))[7]?) = some (some (.ref l)) := by
      rw [List.getElem?_set_ne (by decide), List.getElem?_set_ne (by decide)]
      simp only [wipeA]
      rw [List.getElem?_set_ne (by decide), List.getElem?_set_ne (by decide), e7]
    have w10 : ((((wipeA τ [15, 16]).set 15 (some (nD i))).set 16 (some (dT (pt i))))[10]?) = some (some (.ref m)) := by
      rw [List.getElem?_set_ne (by decide), List.getElem?_set_ne (by decide)]
      simp only [wipeA]
      rw [List.getElem?_set_ne (by decide), List.getElem?_set_ne (by decide), e10]
    simp only [wT, wE, w16, w15, w7, w10, okS, okB, isi_dT, truD_b, Op2.sem]
    cases et : pt i with
    | a n us =>
      rw [et] at hsk
      simp only [isV, Bool.false_eq_true, if_false]
      exact hsk rfl _ (List.prefix_refl _)
    | v x =>
      rw [et] at hq'
      simp only [isV, if_true]
      rw [ixS_fn (pre_at p2 eL) hi]
      dsimp only
      rw [ixS_num (pre_at p2 em) (ho i hi), dT_v]
      exact hq' _ rfl _ (List.prefix_refl _)
  · have ev : (List.range N).filterMap (fun i => match pt i with
        | .v x => some (Ky.s x, nD (od.idxOf (L i)))
        | _ => none) = ((List.range N).filterMap fun i => match pt i with
        | .v x => some x
        | _ => none).map fun x => (Ky.s x, nD (hm x)) := by
      rw [List.map_filterMap]
      have : ∀ is : List Nat, (∀ i ∈ is, i < N) → is.filterMap (fun i => match pt i with
        | .v x => some (Ky.s x, nD (od.idxOf (L i)))
        | _ => none) = is.filterMap fun i => Option.map (fun x => (Ky.s x, nD (hm x))) (match pt i with
        | .v x => some x
        | _ => none) := by
        intro is
        induction is with
        | nil => intro _; rfl
        | cons i is ih =>
          intro hi
          rw [List.filterMap_cons, List.filterMap_cons, ih fun j hj => hi j (List.mem_cons_of_mem _ hj)]
          cases et : pt i with
          | a n us => rfl
          | v x =>
            dsimp only [Option.map_some]
            rw [hh i x (hi i List.mem_cons_self) et]
      exact this _ fun i hi => List.mem_range.mp hi
    obtain ⟨xs, e1, n1, m1⟩ := merge_sK (f := fun x => nD (hm x)) ((List.range N).filterMap fun i => match pt i with
        | .v x => some x
        | _ => none) (ks := []) List.nodup_nil
    rw [ev] at e2
    refine hq xs h2 p2 ?_ n1 fun x => ?_
    · rw [e2, ← e1]; rfl
    · rw [m1, List.mem_filterMap]
      constructor
      · rintro (a | ⟨i, hi, e⟩)
        · cases a
        · refine ⟨i, List.mem_range.mp hi, ?_⟩
          cases et : pt i with
          | a n us => rw [et] at e; cases e
          | v y => rw [et] at e; cases e; rfl
      · rintro ⟨i, hi, e⟩
        exact .inr ⟨i, List.mem_range.mpr hi, by rw [e]⟩
end
end Mi

set_option Elab.async false
set_option linter.all false
set_option maxRecDepth 100000
set_option maxHeartbeats 4000000
/-! unifying: merged_rows -/
namespace Mi
open PySem PySem.Spec PyProof.Rows L2 Un
/-- what is told where there is a solution -/
structure Sol (P : Uprs) (h' : Hh) (s : Wd → Tx) (rows : List Rw) (xs : List Wd) (hm : Wd → Nat) (r m : Nat) : Prop where
  best : Best s P
  ok : OkR rows
  ar : ∀ (n : Wd) (js : List Nat), Rw.a n js ∈ rows → js.length ≤ 4
  len : rows.length ≤ 100000
  cr : h'[r]? = some (O.lst (rows.map rD))
  cm : h'[m]? = some (O.dct false (sK xs fun x => nD (hm x)))
  nd : xs.Nodup
  mem : ∀ x, x ∈ xs ↔ x ∈ Vs P
  at_ : ∀ x, x ∈ xs → hm x < rows.length ∧ s x = (tell rows).getD (hm x) (.v [])
theorem Sol.ext {P : Uprs} {h' h'' : Hh} {s : Wd → Tx} {rows : List Rw} {xs : List Wd} {hm : Wd → Nat} {r m : Nat} (S : Sol P h' s rows xs hm r m) (p : h' <+: h'') : Sol P h'' s rows xs hm r m := ⟨S.best, S.ok, S.ar, S.len, pre_at p S.cr, pre_at p S.cm, S.nd, S.mem, S.at_⟩
theorem Sol.size {P : Uprs} {h' : Hh} {s : Wd → Tx} {rows : List Rw} {xs : List Wd} {hm : Wd → Nat} {r m : Nat} (S : Sol P h' s rows xs hm r m) {x : Wd} (hx : x ∈ xs) : (szR rows)[hm x]? = some (s x).size := by
  have e := szR_tell S.ok rows.length (Nat.le_refl _)
  rw [List.take_of_length_le (Nat.le_refl _)] at e
  obtain ⟨hl, es⟩ := S.at_ x hx
  rw [e, List.getElem?_map, es, List.getD_eq_getElem?_getD, List.getElem?_eq_getElem (by rw [tell_len]; exact hl)]; rfl
theorem smP_mem {n : Nat} {p : Nat × Nat} (h : p ∈ smP n) : ∃ k, k < n ∧ p = (2 * k, 2 * k + 1) := by
  obtain ⟨k, hk, rfl⟩ := List.mem_map.mp h
  exact ⟨k, List.mem_range.mp hk, rfl⟩
def end9 : Ss := (.cons (.ite (.op .isnt (.v 2) (.k .non)) (.cons (.asg (.n 17) (.call 1 (.cons (.v 13) .nil)))
  (.cons (.ite (.bi .any (.cons (.cp (.n 11) (.vls 14) .no (.op .gt (.op .ix (.v 17) (.v 11)) (.v 2)) [11]) .nil)) (.cons (.rse 3 (.cons (.k (.str [97, 32, 116, 101, 114, 109, 32, 104, 97, 115, 32, 116, 111, 111, 32, 109, 97, 110, 121, 32, 110, 97, 109, 101, 115, 32, 97, 110, 100, 32, 118, 97, 114, 105, 97, 98, 108, 101, 115])) .nil))
  .nil) .nil)
  .nil)) .nil)
  (.cons (.ret (.tup (.cons (.v 13) (.cons (.v 14) (.cons (.cp (.n 12) (.of (.sl (.v 7) .no (.so (.bi .len (.cons (.v 0) .nil))))) .no (.op .ix (.v 10) (.v 12)) [12]) .nil)))))
  .nil))
def mid9 : Ss := (.cons (.asg (.n 7) (.call 16 (.cons (.v 5) (.cons (.v 6) (.cons (.op .add (.v 1) (.call 15 (.cons (.v 5) .nil))) .nil)))))
  (.cons (.ite (.op .iss (.v 7) (.k .non)) (.cons (.ret (.k .non))
  .nil) .nil)
  (.cons (.asg (.n 8) (.call 19 (.cons (.v 5) (.cons (.v 6) (.cons (.v 7) .nil)))))
  (.cons (.asg (.n 9) (.call 21 (.cons (.v 8) .nil)))
  (.cons (.ite (.op .iss (.v 9) (.k .non)) (.cons (.ret (.k .non))
  .nil) .nil)
  (.cons (.asg (.n 10) (.dc (.t (.cons (.n 11) (.cons (.n 12) .nil))) (.en (.v 9)) .no (.v 12) (.v 11) [11, 12]))
  (.cons (.asg (.n 13) (.cp (.n 12) (.nm 9) .no (.call 22 (.cons (.op .ix (.v 8) (.v 12)) (.cons (.v 10) .nil))) [12]))
  (.cons (.asg (.n 14) (.dc (.t (.cons (.n 15) (.cons (.n 16) .nil))) (.en (.v 5)) (.so (.isi .str (.v 16))) (.v 16) (.op .ix (.v 10) (.op .ix (.v 7) (.v 15))) [15, 16]))
  end9))))))))
section
variable {Z : Zi} {B : List Fd} (hU : HasU B) (hZ : ∀ d, Z.mkf 3 [d] = some [])
include hU hZ
/-- the end: sizes -/
theorem end9_w {j a l pl N : Nat} {P : Uprs} {L : Nat → Nat} {od : List Nat} {s : Wd → Tx} {rows : List Rw} {xs : List Wd} {hm : Wd → Nat} {r m : Nat} {h : Hh} {v1 v3 v4 v5 v6 v8 v9 v11 v12 v15 v16 v17 : Option D} {D0 : En} (S : Sol P h s rows xs hm r m) (hx : xs.length ≤ 100000) (ea : h[a]? = some (.lst ((flP P).map dT))) (eL : h[l]? = some (.lst (fnD N fun i => nD (L i)))) (hN : N ≤ 100000) (ep : h[pl]? = some (.dct false (nK od fun l => nD (od.idxOf l)))) (ho : ∀ i, i < N → L i ∈ od)
    (k1 : (∃ x, x ∈ Vs P ∧ 60 < (s x).size) → ∀ τ h', h <+: h' → D0.ex 3 [] τ h')
    (k2 : (∀ x, x ∈ Vs P → (s x).size ≤ 60) → ∀ w h', h <+: h' → Sol P h' s rows xs hm r m → D0.rt (.tup [.ref r, .ref m, .ref w]) h') :
    wSs Z (WPc Z B (j + 1)) end9 D0 [some (.ref a), v1, some (.int 60), v3, v4, v5, v6, some (.ref l), v8, v9, some (.ref pl), v11, v12, some (.ref r), some (.ref m), v15, v16, v17] h := by
  unfold end9
  refine wSs_c ?_
  simp only [wS, wE, wEs, wPs, kysOf, D.ky, wO, wT, wI, Op2.sem, Bi.sem, okS, okB, En.px, List.getElem?_cons_zero, List.getElem?_cons_succ, List.set_cons_zero, List.set_cons_succ, List.map_cons, List.map_nil, List.cons_append, List.nil_append, List.append_nil, Bool.false_eq_true, if_true, if_false, reduceIte]
  rw [show isntS h (.int 60) .non = some (.bl true, h) from rfl]
  simp only [truD_b, if_true]
  refine wSs_c ?_
  simp only [wS, wE, wEs, wPs, kysOf, D.ky, wO, wT, wI, Op2.sem, Bi.sem, okS, okB, En.px, List.getElem?_cons_zero, List.getElem?_cons_succ, List.set_cons_zero, List.set_cons_succ, List.map_cons, List.map_nil, List.cons_append, List.nil_append, List.append_nil, Bool.false_eq_true, if_true, if_false, reduceIte]
  refine sizes_w hU S.cr S.ok S.len S.ar fun b h1 p1 eb => wG_n ?_
  simp only [List.set_cons_succ, List.set_cons_zero]
  have S1 := S.ext p1
  refine wSs_c ?_
  simp only [wS, wE, wEs, wPs, kysOf, D.ky, wO, wT, wI, Op2.sem, Bi.sem, okS, okB, En.px, List.getElem?_cons_zero, List.getElem?_cons_succ, List.set_cons_zero, List.set_cons_succ, List.map_cons, List.map_nil, List.cons_append, List.nil_append, List.append_nil, Bool.false_eq_true, if_true, if_false, reduceIte]
  rw [lk_dv (i := 14) rfl S1.cm]
  dsimp only
  simp only [dctIn]
  rw [dctAt_at (i := 14) rfl (set_self S1.cm)]
  dsimp only
  have hv : ((sK xs fun x => nD (hm x)).map fun p => p.2) = xs.map fun x => nD (hm x) := by unfold sK; rw [List.map_map]; rfl
  rw [hv]
  have em2 : (h1.set m (.dct true (sK xs fun x => nD (hm x))))[m]? = some (.dct true (sK xs fun x => nD (hm x))) := set_self S1.cm
  have nb : m ≠ b := fun e => by rw [← e, S1.cm] at eb; cases eb
  refine wAcc_m (h0 := h1.set m (.dct true (sK xs fun x => nD (hm x)))) (l := xs) (fun x => nD (hm x)) (fun x => .bl (decide (60 < (s x).size))) (fun h2 p2 => pre_at p2 em2) (fun x hx2 q sk h2 p2 hq => ?_) (by omega) fun h2 p2 e2 => ?_
  · simp only [wipeA, List.set_cons_succ, List.set_cons_zero]
    refine wG_n ?_
    simp only [wS, wE, wEs, wPs, kysOf, D.ky, wO, wT, wI, Op2.sem, Bi.sem, okS, okB, En.px, List.getElem?_cons_zero, List.getElem?_cons_succ, List.set_cons_zero, List.set_cons_succ, List.map_cons, List.map_nil, List.cons_append, List.nil_append, List.append_nil, Bool.false_eq_true, if_true, if_false, reduceIte]
    have eb2 := pre_at p2 (set_at (o := .dct true (sK xs fun x => nD (hm x))) eb nb)
    rw [ixS_at (d := nD (s x).size) eb2 (by rw [List.getElem?_map, S.size hx2]; rfl)]
    dsimp only
    rw [show gtS h2 (nD (s x).size) (.int 60) = some (.bl (decide (60 < (s x).size)), h2) from by
      show some (D.bl (decide ((60 : Int) < ((s x).size : Int))), h2) = _
      rw [show decide ((60 : Int) < ((s x).size : Int)) = decide (60 < (s x).size) from decide_eq_decide.mpr (by omega)]]
    exact hq _ (List.prefix_refl _)
  · refine ⟨pre_at p2 em2, ?_⟩
    have p3 := unlock_pre p2 S1.cm
    rw [List.length_set] at e2 ⊢
    have hm1 : m < h1.length := at_lt S1.cm
    dsimp only
    rw [anyS_map (set_at (o := .dct false (sK xs fun x => nD (hm x))) e2 (by omega))]
    revert p3
    generalize h2.set m (.dct false (sK xs fun x => nD (hm x))) = h3
    intro p3
    have S3 := S1.ext p3
    simp only [truD_b]
    by_cases c : (xs.any fun x => decide (60 < (s x).size)) = true
    · rw [c, if_pos rfl]
      obtain ⟨x, hx3, e⟩ := List.any_eq_true.mp c
      refine wSs_c ?_
      simp only [wS, wE, wEs, wPs, kysOf, D.ky, wO, wT, wI, Op2.sem, Bi.sem, okS, okB, En.px, List.getElem?_cons_zero, List.getElem?_cons_succ, List.set_cons_zero, List.set_cons_succ, List.map_cons, List.map_nil, List.cons_append, List.nil_append, List.append_nil, Bool.false_eq_true, if_true, if_false, reduceIte]
      rw [hZ]
      exact k1 ⟨x, (S.mem x).1 hx3, by simpa using e⟩ _ _ (p1.trans p3)
    · rw [Bool.not_eq_true] at c
      rw [c, if_neg (by decide)]
      refine wSs_n (wSs_n (Z := Z) (C := WPc Z B (j + 1)) (wSs_c ?_))
      simp only [wS, wE, wEs, wPs, kysOf, D.ky, wO, wT, wI, Op2.sem, Bi.sem, okS, okB, En.px, List.getElem?_cons_zero, List.getElem?_cons_succ, List.set_cons_zero, List.set_cons_succ, List.map_cons, List.map_nil, List.cons_append, List.nil_append, List.append_nil, Bool.false_eq_true, if_true, if_false, reduceIte]
      have pa := p1.trans p3
      rw [lenS_ref (asL_at (pre_at pa ea))]
      simp only [lk_of']
      rw [show slS h3 (.ref l) none (some ((List.map dT (flP P)).length : Int)) = some (.ref h3.length, h3 ++ [.lst (cutL (fnD N fun i => nD (L i)) none (some ((List.map dT (flP P)).length : Int)))]) from by
        unfold slS
        dsimp only
        rw [asL_at (pre_at pa eL)]]
      dsimp only [srcD]
      rw [asL_at new_at]
      dsimp only
      obtain ⟨ls, els, hls, hll⟩ : ∃ ls : List Nat, cutL (fnD N fun i => nD (L i)) none (some ((List.map dT (flP P)).length : Int)) = ls.map nD ∧ (∀ x ∈ ls, x ∈ od) ∧ ls.length ≤ N := by
        refine ⟨cutL ((List.range N).map L) none (some ((List.map dT (flP P)).length : Int)), ?_, fun x hx4 => ?_, ?_⟩
        · unfold cutL fnD
          simp only [List.map_take, List.map_drop, List.map_map, List.length_map]; rfl
        · unfold cutL at hx4
          have := List.mem_of_mem_drop (List.mem_of_mem_take hx4)
          obtain ⟨i, hi, rfl⟩ := List.mem_map.mp this
          exact ho i (List.mem_range.mp hi)
        · unfold cutL
          rw [List.length_take, List.length_drop, List.length_map, List.length_range]; omega
      rw [els]
      have p4 := pre_snoc (List.prefix_refl h3) (o := O.lst (ls.map nD))
      refine wAcc_m (l := ls) nD (fun x => nD (od.idxOf x)) (fun h4 p5 => asL_at (pre_at p5 new_at)) (fun x hx4 q sk h4 p5 hq => ?_) (by omega) fun h4 p5 e4 => ?_
      · simp only [wipeA, List.set_cons_succ, List.set_cons_zero]
        refine wG_n ?_
        simp only [wS, wE, wEs, wPs, kysOf, D.ky, wO, wT, wI, Op2.sem, Bi.sem, okS, okB, En.px, List.getElem?_cons_zero, List.getElem?_cons_succ, List.set_cons_zero, List.set_cons_succ, List.map_cons, List.map_nil, List.cons_append, List.nil_append, List.append_nil, Bool.false_eq_true, if_true, if_false, reduceIte]
        rw [ixS_num (pre_at ((pa.trans p4).trans p5) ep) (hls x hx4)]
        exact hq _ (List.prefix_refl _)
      · refine ⟨by rw [sizeLine_eq]; simp, k2 (fun x hx5 => ?_) _ _ ((pa.trans p4).trans p5) (S3.ext (p4.trans p5))⟩
        have := List.any_eq_false.mp c x ((S.mem x).2 hx5)
        simpa using this
theorem part2 {j a c p q N : Nat} {P : Uprs} {pt : Nat → Tx} {ia : Nat → Nat} {inr : Nat → List Nat} {h : Hh} {v3 v4 v7 v8 v9 v10 v11 v12 v13 v14 v15 v16 v17 : Option D} {D0 : En} (RP : Parts h p q N pt ia inr) (R : Prt P N pt inr) (vi : ∀ i, i < N → (inr i).length = (subT (pt i)).length) (fl : ∀ i, i < (flP P).length → (flP P)[i]? = some (pt i)) (wf4 : ∀ i, i < N → (inr i).length ≤ 4) (flN : (flP P).length ≤ N) (hN : N ≤ 50000)
    (ea : h[a]? = some (.lst ((flP P).map dT))) (ec : h[c]? = some (.lst ((smP P.length).map qD)))
    (k0 : (¬ ∃ r, Unif r P) → ∀ h', h <+: h' → D0.rt .non h')
    (k1 : ∀ s, Best s P → (∃ x, x ∈ Vs P ∧ 60 < (s x).size) → ∀ τ h', h <+: h' → D0.ex 3 [] τ h')
    (k2 : ∀ s rows xs hm r m w h', (∀ x, x ∈ Vs P → (s x).size ≤ 60) → h <+: h' → Sol P h' s rows xs hm r m → D0.rt (.tup [.ref r, .ref m, .ref w]) h') :
    wSs Z (WPc Z B (j + 2)) mid9 D0 [some (.ref a), some (.ref c), some (.int 60), v3, v4, some (.ref p), some (.ref q), v7, v8, v9, v10, v11, v12, v13, v14, v15, v16, v17] h := by
  have smlen : (smP P.length).length = P.length := by unfold smP; rw [List.length_map, List.length_range]
  have fl2 := flP_len P
  unfold mid9
  refine wSs_c ?_
  simp only [wS, wE, wEs, wPs, kysOf, D.ky, wO, wT, wI, Op2.sem, Bi.sem, okS, okB, En.px, List.getElem?_cons_zero, List.getElem?_cons_succ, List.set_cons_zero, List.set_cons_succ, List.map_cons, List.map_nil, List.cons_append, List.nil_append, List.append_nil, Bool.false_eq_true, if_true, if_false, reduceIte]
  refine sameV_w hU RP (by omega) fun sv g h1 p1 e1 sl sv1 sv2 => ?_
  rw [addS_ll (pre_at p1 ec) e1 (by rw [List.length_map, List.length_map, smlen]; omega)]
  dsimp only
  rw [← List.map_append]
  have p2 := pre_snoc p1 (o := O.lst ((smP P.length ++ sv).map qD))
  have ptk : ∀ k p, P[k]? = some p → pt (2 * k) = p.1 ∧ pt (2 * k + 1) = p.2 ∧ 2 * k + 1 < N := fun k p ep => by
    obtain ⟨f1, f2⟩ := flP_at ep
    have hk := (List.getElem?_eq_some_iff.mp ep).1
    have g1 := fl (2 * k) (by omega)
    have g2 := fl (2 * k + 1) (by omega)
    rw [f1] at g1
    rw [f2] at g2
    exact ⟨(Option.some.inj g1).symm, (Option.some.inj g2).symm, by omega⟩
  refine merged_w hU R (RP.ext p2) wf4 vi (by omega) new_at (by rw [List.length_append, smlen]; omega) (fun x hx => ?_) (fun r hr x hx => ?_) (fun hn h2 p3 => ?_) fun tp ld rt dp nr l h2 p3 U el => ?_
  · rcases List.mem_append.mp hx with hx | hx
    · obtain ⟨k, hk, rfl⟩ := smP_mem hx
      dsimp only
      omega
    · exact ⟨(sv1 x hx).1, (sv1 x hx).2.1⟩
  · rcases List.mem_append.mp hx with hx | hx
    · obtain ⟨k, hk, rfl⟩ := smP_mem hx
      obtain ⟨p, ep⟩ : ∃ p, P[k]? = some p := ⟨_, List.getElem?_eq_getElem hk⟩
      obtain ⟨g1, g2, _⟩ := ptk k p ep
      dsimp only
      rw [g1, g2]
      exact hr p (List.mem_of_getElem? ep)
    · obtain ⟨_, _, y, y1, y2⟩ := sv1 x hx
      rw [y1, y2]
  · refine wG_n ?_
    simp only [List.set_cons_succ, List.set_cons_zero]
    refine wSs_c ?_
    simp only [wS, wE, wEs, wPs, kysOf, D.ky, wO, wT, wI, Op2.sem, Bi.sem, okS, okB, En.px, List.getElem?_cons_zero, List.getElem?_cons_succ, List.set_cons_zero, List.set_cons_succ, List.map_cons, List.map_nil, List.cons_append, List.nil_append, List.append_nil, Bool.false_eq_true, if_true, if_false, reduceIte]
    rw [show isS h2 .non .non = some (.bl true, h2) from rfl]
    simp only [truD_b, if_true]
    refine wSs_c ?_
    simp only [wS, wE, wEs, wPs, kysOf, D.ky, wO, wT, wI, Op2.sem, Bi.sem, okS, okB, En.px, List.getElem?_cons_zero, List.getElem?_cons_succ, List.set_cons_zero, List.set_cons_succ, List.map_cons, List.map_nil, List.cons_append, List.nil_append, List.append_nil, Bool.false_eq_true, if_true, if_false, reduceIte]
    exact k0 hn h2 (p2.trans p3)
  · refine wG_n ?_
    simp only [List.set_cons_succ, List.set_cons_zero]
    have C := U.cls R (fun i j x hi hj ei ej => by
      rcases sv2 i j x hi hj ei ej with q | q | q | ⟨l, q1, q2⟩
      · exact .inl q
      · exact .inr (.inl (List.mem_append_right _ q))
      · exact .inr (.inr (.inl (List.mem_append_right _ q)))
      · exact .inr (.inr (.inr ⟨l, List.mem_append_right _ q1, List.mem_append_right _ q2⟩))) (fun p hp => by
      obtain ⟨k, ep⟩ := List.getElem?_of_mem hp
      have hk := (List.getElem?_eq_some_iff.mp ep).1
      obtain ⟨g1, g2, g3⟩ := ptk k p ep
      exact ⟨2 * k, 2 * k + 1, by omega, g3, g1, g2, List.mem_append_left _ (List.mem_map.mpr ⟨k, List.mem_range.mpr hk, rfl⟩)⟩)
    obtain ⟨L, hL⟩ : ∃ L : Nat → Nat, L = fun i => ld (rt i) := ⟨_, rfl⟩
    have el : h2[l]? = some (O.lst (fnD N fun i => nD (L i))) := by rw [hL]; exact el
    rw [← hL] at C
    have p4 := p2.trans p3
    have RP2 := RP.ext p4
    refine wSs_c ?_
    simp only [wS, wE, wEs, wPs, kysOf, D.ky, wO, wT, wI, Op2.sem, Bi.sem, okS, okB, En.px, List.getElem?_cons_zero, List.getElem?_cons_succ, List.set_cons_zero, List.set_cons_succ, List.map_cons, List.map_nil, List.cons_append, List.nil_append, List.append_nil, Bool.false_eq_true, if_true, if_false, reduceIte]
    rw [show isS h2 (.ref l) .non = some (.bl false, h2) from rfl]
    simp only [truD_b, Bool.false_eq_true, if_false]
    refine wSs_n (wSs_c ?_)
    simp only [wS, wE, wEs, wPs, kysOf, D.ky, wO, wT, wI, Op2.sem, Bi.sem, okS, okB, En.px, List.getElem?_cons_zero, List.getElem?_cons_succ, List.set_cons_zero, List.set_cons_succ, List.map_cons, List.map_nil, List.cons_append, List.nil_append, List.append_nil, Bool.false_eq_true, if_true, if_false, reduceIte]
    refine classes_w hU C RP2 wf4 el (by omega) fun ks f h5 p5 e5 nd km cv => wG_n ?_
    simp only [List.set_cons_succ, List.set_cons_zero]
    have lk : ∀ l, l ∈ ks → l < N ∧ L l = l := fun l hl => by
      obtain ⟨i, hi, rfl⟩ := (km l).1 hl
      exact ⟨C.lt i hi, C.top i hi⟩
    have wn : ∀ l, l ∈ ks → ∀ p ∈ Wn pt inr L l, p ∈ ks ∧ ∃ n ts j, pt l = .a n ts ∧ j ∈ inr l ∧ p = L j := fun l hl p hp => by
      unfold Wn at hp
      cases et : pt l with
      | v x => rw [et] at hp; cases hp
      | a n ts =>
        rw [et] at hp
        obtain ⟨j, hj, rfl⟩ := List.mem_map.mp hp
        exact ⟨(km _).2 ⟨j, (C.inn l (lk l hl).1 n ts et).2 j hj, rfl⟩, n, ts, j, rfl, hj, rfl⟩
    have w4 : ∀ l, l ∈ ks → (Wn pt inr L l).length ≤ 4 := fun l hl => by
      unfold Wn
      cases et : pt l with
      | v x => exact Nat.zero_le _
      | a n ts => dsimp only; rw [List.length_map]; exact wf4 l (lk l hl).1
    have kl : ks.length ≤ N := by
      have := nodup_len (l := ks) (m := List.range N) nd fun l hl => List.mem_range.mpr (lk l hl).1
      rwa [List.length_range] at this
    refine wSs_c ?_
    simp only [wS, wE, wEs, wPs, kysOf, D.ky, wO, wT, wI, Op2.sem, Bi.sem, okS, okB, En.px, List.getElem?_cons_zero, List.getElem?_cons_succ, List.set_cons_zero, List.set_cons_succ, List.map_cons, List.map_nil, List.cons_append, List.nil_append, List.append_nil, Bool.false_eq_true, if_true, if_false, reduceIte]
    refine order_w hU e5 nd (by omega) cv (fun l hl p hp => (wn l hl p hp).1) w4 (fun S ne hS h6 p6 => ?_) fun od o h6 p6 e6 ond om ord => ?_
    · refine wG_n ?_
      simp only [List.set_cons_succ, List.set_cons_zero]
      refine wSs_c ?_
      simp only [wS, wE, wEs, wPs, kysOf, D.ky, wO, wT, wI, Op2.sem, Bi.sem, okS, okB, En.px, List.getElem?_cons_zero, List.getElem?_cons_succ, List.set_cons_zero, List.set_cons_succ, List.map_cons, List.map_nil, List.cons_append, List.nil_append, List.append_nil, Bool.false_eq_true, if_true, if_false, reduceIte]
      rw [show isS h6 .non .non = some (.bl true, h6) from rfl]
      simp only [truD_b, if_true]
      refine wSs_c ?_
      simp only [wS, wE, wEs, wPs, kysOf, D.ky, wO, wT, wI, Op2.sem, Bi.sem, okS, okB, En.px, List.getElem?_cons_zero, List.getElem?_cons_succ, List.set_cons_zero, List.set_cons_succ, List.map_cons, List.map_nil, List.cons_append, List.nil_append, List.append_nil, Bool.false_eq_true, if_true, if_false, reduceIte]
      refine k0 (C.none (S := S) ne fun l hl => ?_) h6 ((p4.trans p5).trans p6)
      obtain ⟨a1, p, a2, a3⟩ := hS l hl
      obtain ⟨_, n, ts, jn, b1, b2, rfl⟩ := wn l a1 p a2
      exact ⟨(lk l a1).1, n, ts, jn, b1, b2, a3⟩
    · refine wG_n ?_
      simp only [List.set_cons_succ, List.set_cons_zero]
      have ol : od.length ≤ N := by
        have := nodup_len ond fun l hl => (om l).1 hl
        omega
      refine wSs_c ?_
      simp only [wS, wE, wEs, wPs, kysOf, D.ky, wO, wT, wI, Op2.sem, Bi.sem, okS, okB, En.px, List.getElem?_cons_zero, List.getElem?_cons_succ, List.set_cons_zero, List.set_cons_succ, List.map_cons, List.map_nil, List.cons_append, List.nil_append, List.append_nil, Bool.false_eq_true, if_true, if_false, reduceIte]
      rw [show isS h6 (.ref o) .non = some (.bl false, h6) from rfl]
      simp only [truD_b, Bool.false_eq_true, if_false]
      refine wSs_n (wSs_c ?_)
      simp only [wS]
      refine placesE_w (i := 9) (o := o) rfl e6 ond (by omega) (by decide) (by simp) (by simp) fun h7 p7 e7 => wG_n ?_
      simp only [List.set_cons_succ, List.set_cons_zero]
      -- the rows
      obtain ⟨zf, hzf⟩ : ∃ zf : Nat → Wd, ∀ l z, f l = .str z → zf l = z := ⟨fun l => match f l with
        | .str z => z
        | _ => [], fun l z e => by dsimp only; rw [e]⟩
      have e6' := pre_at p7 e6
      refine wSs_c ?_
      simp only [wS, wE, wEs, wPs, kysOf, D.ky, wO, wT, wI, Op2.sem, Bi.sem, okS, okB, En.px, List.getElem?_cons_zero, List.getElem?_cons_succ, List.set_cons_zero, List.set_cons_succ, List.map_cons, List.map_nil, List.cons_append, List.nil_append, List.append_nil, Bool.false_eq_true, if_true, if_false, reduceIte]
      rw [lk_nmL (i := 9) rfl e6']
      dsimp only
      rw [dctAt_lst (i := 9) rfl e6']
      dsimp only [srcD]
      rw [asL_at e6']
      dsimp only
      refine wAcc_m (l := od) nD (fun l => rD (rowOf pt inr L zf od l)) (fun h8 p8 => asL_at (pre_at p8 e6')) (fun l hl q' sk h8 p8 hq => ?_) (by omega) fun h8 p8 e8 => ?_
      · have hlk := (om l).1 hl
        simp only [wipeA, List.set_cons_succ, List.set_cons_zero]
        refine wG_n ?_
        simp only [wS, wE, wEs, wPs, kysOf, D.ky, wO, wT, wI, Op2.sem, Bi.sem, okS, okB, En.px, List.getElem?_cons_zero, List.getElem?_cons_succ, List.set_cons_zero, List.set_cons_succ, List.map_cons, List.map_nil, List.cons_append, List.nil_append, List.append_nil, Bool.false_eq_true, if_true, if_false, reduceIte]
        rw [ixS_num (pre_at ((p6.trans p7).trans p8) e5) hlk]
        exact row_w hU ((cv l hlk).ext ((p6.trans p7).trans p8)) (fun z e => hzf l z e) (pre_at p8 e7) (fun p hp => (om p).2 (wn l hlk p hp).1) (w4 l hlk) hq
      · refine wG_n ?_
        simp only [List.set_cons_succ, List.set_cons_zero]
        have e8 : h8[h7.length]? = some (O.lst ((od.map (rowOf pt inr L zf od)).map rD)) := by rw [List.map_map]; exact e8
        have hz2 : ∀ l x, l ∈ ks → pt l = .v x → (∃ i, i < N ∧ L i = l ∧ pt i = .v (zf l)) ∧ ∀ i y, i < N → L i = l → pt i = .v y → zf l ≤ y := fun l x hl e => by
          have := cv l hl
          unfold ClsV at this
          rw [e] at this
          obtain ⟨z, e1, a1, a2⟩ := this
          rw [hzf l z e1]
          exact ⟨a1, a2⟩
        obtain ⟨hO, T⟩ := told_of C km om ond ord hz2
        obtain ⟨hm, hh⟩ := hm_of C od.idxOf
        have p9 := ((p4.trans p5).trans p6).trans (p7.trans p8)
        have hLo : ∀ i, i < N → L i ∈ od := fun i hi => (om _).2 ((km _).2 ⟨i, hi, rfl⟩)
        refine wSs_c ?_
        simp only [wS]
        refine homes_w C (RP.ext p9) (by omega) rfl rfl rfl rfl (pre_at ((p5.trans p6).trans (p7.trans p8)) el) (pre_at p8 e7) hLo hh fun xs h10 p10 e10 xn xm => wG_n ?_
        simp only [List.set_cons_succ, List.set_cons_zero]
        have xv : ∀ x, x ∈ xs ↔ x ∈ Vs P := fun x => by rw [xm, R.var]
        have S : Sol P h10 (fun x => (tell (od.map (rowOf pt inr L zf od))).getD (hm x) (.v [])) (od.map (rowOf pt inr L zf od)) xs hm h7.length h8.length := {
          best := C.best T fun i hi x e => by rw [hh i x hi e]
          ok := hO
          ar := fun n js hin => by
            obtain ⟨l, hl, e⟩ := List.mem_map.mp hin
            have hlk := (om l).1 hl
            unfold rowOf at e
            cases et : pt l with
            | v x => rw [et] at e; cases e
            | a m us =>
              rw [et] at e
              cases e
              rw [List.length_map]
              exact wf4 l (lk l hlk).1
          len := by rw [List.length_map]; omega
          cr := pre_at p10 e8
          cm := e10
          nd := xn
          mem := xv
          at_ := fun x hx => by
            obtain ⟨i, hi, e⟩ := (xm x).1 hx
            refine ⟨?_, rfl⟩
            rw [hh i x hi e, List.length_map]
            exact List.idxOf_lt_length_of_mem (hLo i hi) }
        have xl : xs.length ≤ N := by
          have hinj : ∀ x, x ∈ xs → ∃ i, i < N ∧ pt i = .v x := fun x hx => (xm x).1 hx
          haveI : DecidableEq Tx := fun a b => Classical.propDecidable (a = b)
          have := nodup_len (l := xs.map Tx.v) (m := (List.range N).map pt) (by
            rw [List.nodup_iff_pairwise_ne, List.pairwise_map]
            exact (List.nodup_iff_pairwise_ne.mp xn).imp fun hab e => hab (by injection e)) fun t ht => by
              obtain ⟨x, hx, rfl⟩ := List.mem_map.mp ht
              obtain ⟨i, hi, e⟩ := hinj x hx
              exact List.mem_map.mpr ⟨i, List.mem_range.mpr hi, e⟩
          rwa [List.length_map, List.length_map, List.length_range] at this
        have p11 := p9.trans p10
        refine end9_w hU hZ S (by omega) (pre_at p11 ea) (pre_at (((p5.trans p6).trans (p7.trans p8)).trans p10) el) (by omega) (pre_at (p8.trans p10) e7) hLo (fun hx τ h11 p12 => ?_) fun hx w h11 p12 S2 => ?_
        · exact k1 _ S.best hx τ h11 (p11.trans p12)
        · exact k2 _ _ _ _ _ _ w h11 hx (p11.trans p12) S2
theorem rows_w {j a c : Nat} {P : Uprs} {h : Hh} {Q : PQ} {Qx : PX} (ea : h[a]? = some (.lst ((flP P).map dT))) (ec : h[c]? = some (.lst ((smP P.length).map qD))) (hw : ∀ t ∈ flP P, wfT t = true) (hz : szs (flP P) ≤ 50000) (hs : ∀ t ∈ flP P, t.size ≤ 1000)
    (k0 : (¬ ∃ r, Unif r P) → ∀ h', h <+: h' → Q .non h')
    (k1 : ∀ s, Best s P → (∃ x, x ∈ Vs P ∧ 60 < (s x).size) → ∀ h', h <+: h' → Qx 3 [] h')
    (k2 : ∀ s rows xs hm r m w h', (∀ x, x ∈ Vs P → (s x).size ≤ 60) → h <+: h' → Sol P h' s rows xs hm r m → Q (.tup [.ref r, .ref m, .ref w]) h') : WPc Z B (j + 3) 9 [.ref a, .ref c, .int 60] h Q Qx := by
  unfold WPc
  rw [hU 9 _ rfl]
  refine ⟨rfl, ?_⟩
  show wSs Z _ Uf.b9.body _ [some (.ref a), some (.ref c), some (.int 60), none, none, none, none, none, none, none, none, none, none, none, none, none, none, none] h
  unfold Uf.b9
  have pl : P.length ≤ 25000 := by
    have := szs_len (flP P)
    rw [flP_len] at this; omega
  have smlen : (smP P.length).length = P.length := by unfold smP; rw [List.length_map, List.length_range]
  -- apart
  refine wSs_c ?_
  simp only [wS, wE, wEs, wPs, kysOf, D.ky, wO, wT, wI, Op2.sem, Bi.sem, okS, okB, En.px, List.getElem?_cons_zero, List.getElem?_cons_succ, List.set_cons_zero, List.set_cons_succ, List.map_cons, List.map_nil, List.cons_append, List.nil_append, List.append_nil, Bool.false_eq_true, if_true, if_false, reduceIte]
  rw [lk_nmL (i := 1) rfl ec]
  dsimp only
  rw [dctAt_lst (i := 1) rfl ec]
  dsimp only [srcD]
  rw [asL_at ec]
  dsimp only
  refine wAcc_bl (h0 := h) (acc := []) (l := smP P.length) qD (fun _ => ¬ ∃ r, Unif r P) (fun h2 p2 => asL_at (pre_at p2 ec)) (fun x hx q sk h2 p2 hq => ?_) (pre_snoc (List.prefix_refl _)) new_at (by rw [smlen]; simp; omega) fun bs h2 p2 e2 hb => ?_
  · obtain ⟨k, hk, rfl⟩ := smP_mem hx
    obtain ⟨p, ep⟩ : ∃ p, P[k]? = some p := ⟨_, List.getElem?_eq_getElem hk⟩
    obtain ⟨f1, f2⟩ := flP_at ep
    simp only [wipeA, List.set_cons_succ, List.set_cons_zero]
    refine wG_2 ?_
    simp only [wS, wE, wEs, wPs, kysOf, D.ky, wO, wT, wI, Op2.sem, Bi.sem, okS, okB, En.px, List.getElem?_cons_zero, List.getElem?_cons_succ, List.set_cons_zero, List.set_cons_succ, List.map_cons, List.map_nil, List.cons_append, List.nil_append, List.append_nil, Bool.false_eq_true, if_true, if_false, reduceIte]
    rw [ixS_at (d := dT p.1) (pre_at p2 ea) (by rw [List.getElem?_map, f1]; rfl)]
    dsimp only
    rw [ixS_at (d := dT p.2) (pre_at p2 ea) (by rw [List.getElem?_map, f2]; rfl)]
    dsimp only
    refine apart_w hU (hs _ (List.mem_of_getElem? f1)) fun r h3 p3 hr => hq r h3 (fun e => ?_) p3
    rintro ⟨s, hs2⟩
    exact hr e s (hs2 p (List.mem_of_getElem? ep))
  · rw [List.nil_append] at e2
    rw [anyS_bl e2]
    simp only [truD_b]
    cases cb : bs.any id with
    | true =>
      rw [if_pos rfl]
      obtain ⟨_, _, hn⟩ := hb cb
      refine wSs_c ?_
      simp only [wS, wE, wEs, wPs, kysOf, D.ky, wO, wT, wI, Op2.sem, Bi.sem, okS, okB, En.px, List.getElem?_cons_zero, List.getElem?_cons_succ, List.set_cons_zero, List.set_cons_succ, List.map_cons, List.map_nil, List.cons_append, List.nil_append, List.append_nil, Bool.false_eq_true, if_true, if_false, reduceIte]
      exact k0 hn h2 p2
    | false =>
      rw [if_neg (by decide)]
      -- numbered
      refine wSs_n (wSs_c ?_)
      simp only [wS, wE, wEs, wPs, kysOf, D.ky, wO, wT, wI, Op2.sem, Bi.sem, okS, okB, En.px, List.getElem?_cons_zero, List.getElem?_cons_succ, List.set_cons_zero, List.set_cons_succ, List.map_cons, List.map_nil, List.cons_append, List.nil_append, List.append_nil, Bool.false_eq_true, if_true, if_false, reduceIte]
      refine numbered_w hU hw (by omega) (pre_at p2 ea) fun ps ins kn h3 I3 il psl => wG_2 ?_
      simp only [List.set_cons_succ, List.set_cons_zero]
      obtain ⟨RP, R, vi, fl⟩ := parts_of I3 il
      have wf4 : ∀ i, i < ps.length → ((ins.getD i (0, [])).2).length ≤ 4 := fun i hi => by
        rw [vi i hi]
        have e : ps[i]? = some (ps.getD i (.v [])) := by rw [List.getD_eq_getElem?_getD, List.getElem?_eq_getElem hi]; rfl
        exact wfT_4 (I3.wf _ (List.mem_of_getElem? e)).1
      have flN : (flP P).length ≤ ps.length := I3.tsp.length_le
      have hN : ps.length ≤ 50000 := by omega
      refine part2 hU hZ (pt := fun i => ps.getD i (.v [])) (inr := fun i => (ins.getD i (0, [])).2) (h := h3) RP R vi fl wf4 flN hN (pre_at (p2.trans I3.pre) ea) (pre_at (p2.trans I3.pre) ec) (fun hn h4 p4 => ?_) (fun s sb sx τ h4 p4 => ?_) fun s rows xs hm r m w h4 sz p4 S => ?_
      · exact k0 hn h4 ((p2.trans I3.pre).trans p4)
      · exact k1 s sb sx h4 ((p2.trans I3.pre).trans p4)
      · exact k2 s rows xs hm r m w h4 sz ((p2.trans I3.pre).trans p4) S
end
end Mi

set_option Elab.async false
set_option linter.all false
set_option maxRecDepth 100000
set_option maxHeartbeats 4000000
/-! unifying: unified -/
namespace Mi
open PySem PySem.Spec PyProof.Rows L2 Un
theorem wdss_ok : ∀ (ts : List Tx) (k acc : Nat), (∀ t ∈ ts, wds t k ≠ 0 → wfT t = true ∧ wds t k = t.size) → acc ≠ 0 → wdss ts k acc ≠ 0 → wfTs ts = true ∧ wdss ts k acc = acc + szs ts
  | [], k, acc, _, _, _ => ⟨rfl, by simp [wdss, szs]⟩
  | t :: ts, k, acc, h, ha, e => by
    rw [wdss] at e ⊢
    by_cases c : wds t k = 0
    · rw [if_pos c] at e; exact absurd rfl e
    · rw [if_neg c] at e ⊢
      obtain ⟨h1, h2⟩ := h t List.mem_cons_self c
      obtain ⟨h3, h4⟩ := wdss_ok ts k _ (fun u hu => h u (List.mem_cons_of_mem _ hu)) (by omega) e
      refine ⟨by rw [wfTs, h1, h3]; rfl, ?_⟩
      rw [h4, szs_cons, h2]; omega
theorem wds_ok : ∀ (t : Tx) (k : Nat), wds t k ≠ 0 → wfT t = true ∧ wds t k = t.size := by
  apply Tx.ind (P := fun t => ∀ k, wds t k ≠ 0 → wfT t = true ∧ wds t k = t.size)
  · intro x k e
    cases k with
    | zero => exact absurd (by rw [wds]) e
    | succ k =>
      rw [wds] at e ⊢
      cases c : isVr x with
      | false => rw [c] at e; exact absurd rfl e
      | true => exact ⟨by rw [wfT, c], by rw [size_v]; rfl⟩
  · intro n ts ih k e
    cases k with
    | zero => exact absurd (by rw [wds]) e
    | succ k =>
      rw [wds] at e ⊢
      by_cases c : (isNm n && decide (ts.length ≤ 4)) = true
      · rw [if_pos c] at e ⊢
        obtain ⟨h1, h2⟩ := wdss_ok ts k 1 (fun t ht => ih t ht k) (by decide) e
        rw [Bool.and_eq_true] at c
        refine ⟨by rw [wfT, c.1, c.2, h1]; rfl, ?_⟩
        rw [h2, size_a]; rfl
      · rw [if_neg c] at e; exact absurd rfl e
theorem okT_wf {t : Tx} (h : okT t = true) : wfT t = true ∧ t.size ≤ 30 := by
  unfold okT at h
  have h := of_decide_eq_true h
  obtain ⟨a, b⟩ := wds_ok t 6 (by omega)
  exact ⟨a, by omega⟩
theorem szs_flP : ∀ (P : Uprs), (∀ p ∈ P, p.1.size ≤ 30 ∧ p.2.size ≤ 30) → szs (flP P) ≤ 60 * P.length
  | [], _ => Nat.zero_le _
  | p :: P, h => by
    have ih := szs_flP P fun q hq => h q (List.mem_cons_of_mem _ hq)
    have hp := h p List.mem_cons_self
    have : flP (p :: P) = p.1 :: p.2 :: flP P := rfl
    rw [this, szs_cons, szs_cons, List.length_cons]; omega
theorem keysS_sK : ∀ {ks : List Wd} {f : Wd → D}, keysS (sK ks f) = some ks
  | [], f => rfl
  | k :: ks, f => by
    show keysS ((Ky.s k, f k) :: sK ks f) = _
    unfold keysS
    rw [keysS_sK]; rfl
theorem flat_w {g : Hh → Prop} {a : Nat} {elt : D → PQ → (Hh → Prop) → Hh → Prop} {k : Hh → Prop} {h0 : Hh} (ha : a = h0.length) (hg : ∀ h, h0 <+: h → g h) : ∀ {P : Uprs} {h : Hh} {acc : List D},
    (∀ p ∈ P, ∀ q sk h' acc, h0 <+: h' → h'[a]? = some (O.lst acc) → acc.length ≤ 900000 → sk (h'.set a (.lst (acc ++ [dT p.1, dT p.2]))) → elt (pD p) q sk h') →
    h0 <+: h → h[a]? = some (.lst acc) → acc.length + 2 * P.length ≤ 900000 → (∀ h', h0 <+: h' → h'[a]? = some (O.lst (acc ++ (flP P).map dT)) → k h') → wAcc g a elt k (P.map pD) h
  | [], h, acc, he, p, e, hl, hk => ⟨hg h p, hk h p (by rw [e]; simp [flP])⟩
  | x :: P, h, acc, he, p, e, hl, hk => by
    refine ⟨hg h p, he x List.mem_cons_self _ _ h acc p e (by omega) ?_⟩
    refine flat_w ha hg (fun q hq => he q (List.mem_cons_of_mem _ hq)) (pre_set p (by omega)) (set_self e) (by simp only [List.length_append, List.length_cons, List.length_nil] at hl ⊢; omega) fun h' p' e' => hk h' p' ?_
    rw [e', List.append_assoc]; rfl
theorem sortd_at {h : Hh} {m : Nat} {lk : Bool} {xs : List Wd} {f : Wd → D} (e : h[m]? = some (.dct lk (sK xs f))) (hl : xs.length < 64) (nd : xs.Nodup) : sortdS h [.ref m] = some (.ref h.length, h ++ [.lst ((ssort xs).map D.str)]) := by
  have ek : asK h (.ref m) = some (sK xs f) := by simp only [asK, e]
  unfold sortdS
  dsimp only
  rw [ek, Option.bind_some, keysS_sK, Option.bind_some]
  exact if_pos ⟨hl, nd⟩
theorem ixS_word {h : Hh} {i : Nat} {lk : Bool} {ks : List Wd} {f : Wd → D} {x : Wd} (e : h[i]? = some (.dct lk (sK ks f))) (hx : x ∈ ks) : ixS h (.ref i) (.str x) = some (f x, h) := ixS_dct e (k := .s x) rfl (by rw [getKd_sK, if_pos hx])
section
variable {Z : Zi} {B : List Fd} (hU : HasU B) (hZ : ∀ d, Z.mkf 3 [d] = some []) (hZ2 : ∀ d, Z.mkf 2 [d] = some [])
include hU hZ hZ2
theorem unified_w {j a : Nat} {P : Uprs} {h : Hh} {Q : PQ} {Qx : PX} (ea : h[a]? = some (.lst (P.map pD))) (hs : ∀ p ∈ P, smT p.1 = true ∧ smT p.2 = true) (hv : ∀ xs : List Wd, xs.Nodup → (∀ x, x ∈ xs ↔ x ∈ Vs P) → xs.length < 64)
    (kx : okP P = false → ∀ h', h <+: h' → Qx 2 [] h')
    (k0 : okP P = true → (¬ ∃ r, Unif r P) → ∀ h', h <+: h' → Q .non h')
    (k1 : okP P = true → ∀ s, Best s P → (∃ x, x ∈ Vs P ∧ 60 < (s x).size) → ∀ h', h <+: h' → Qx 3 [] h')
    (k2 : okP P = true → ∀ s ks m h', Best s P → (∀ x, x ∈ Vs P → (s x).size ≤ 60) → h <+: h' → h'[m]? = some (.dct false (sK ks fun x => dT (s x))) → ks.Nodup → (∀ x, x ∈ ks ↔ x ∈ Vs P) → Q (.ref m) h') : WPc Z B (j + 14) 8 [.ref a] h Q Qx := by
  unfold WPc
  rw [hU 8 _ rfl]
  refine ⟨rfl, ?_⟩
  show wSs Z _ Uf.b8.body _ [some (.ref a), none, none, none, none, none, none, none, none, none, none] h
  unfold Uf.b8
  refine wSs_c ?_
  simp only [wS, wE, wEs, wPs, kysOf, D.ky, wO, wT, wI, Op2.sem, Bi.sem, okS, okB, En.px, List.getElem?_cons_zero, List.getElem?_cons_succ, List.set_cons_zero, List.set_cons_succ, List.map_cons, List.map_nil, List.cons_append, List.nil_append, List.append_nil, Bool.false_eq_true, if_true, if_false, reduceIte]
  refine arePairs_w hU ea hs fun h1 p1 => ?_
  simp only [truD_b]
  cases ok : okP P with
  | false =>
    simp only [Bool.not_false, if_true]
    refine wSs_c ?_
    simp only [wS, wE, wEs, wPs, kysOf, D.ky, wO, wT, wI, Op2.sem, Bi.sem, okS, okB, En.px, List.getElem?_cons_zero, List.getElem?_cons_succ, List.set_cons_zero, List.set_cons_succ, List.map_cons, List.map_nil, List.cons_append, List.nil_append, List.append_nil, Bool.false_eq_true, if_true, if_false, reduceIte]
    rw [hZ2]
    exact kx ok h1 p1
  | true =>
    simp only [Bool.not_true, Bool.false_eq_true, if_false]
    have okd := ok
    unfold okP at okd
    rw [Bool.and_eq_true, decide_eq_true_iff, List.all_eq_true] at okd
    have okt : ∀ p ∈ P, (wfT p.1 = true ∧ p.1.size ≤ 30) ∧ (wfT p.2 = true ∧ p.2.size ≤ 30) := fun p hp => by
      have := okd.2 p hp
      rw [Bool.and_eq_true] at this
      exact ⟨okT_wf this.1, okT_wf this.2⟩
    have okf : ∀ t ∈ flP P, wfT t = true ∧ t.size ≤ 30 := fun t ht => by
      obtain ⟨p, hp, q⟩ := flP_mem.1 ht
      rcases q with rfl | rfl
      · exact (okt p hp).1
      · exact (okt p hp).2
    have szl := szs_flP P fun p hp => ⟨(okt p hp).1.2, (okt p hp).2.2⟩
    -- the terms
    have e1 := pre_at p1 ea
    refine wSs_n (wSs_c ?_)
    simp only [wS, wE, wEs, wPs, kysOf, D.ky, wO, wT, wI, Op2.sem, Bi.sem, okS, okB, En.px, List.getElem?_cons_zero, List.getElem?_cons_succ, List.set_cons_zero, List.set_cons_succ, List.map_cons, List.map_nil, List.cons_append, List.nil_append, List.append_nil, Bool.false_eq_true, if_true, if_false, reduceIte]
    rw [dctAt_lst (i := 0) rfl e1]
    dsimp only [srcD]
    rw [asL_at e1]
    dsimp only
    refine flat_w (h0 := h1) rfl (fun h2 p2 => asL_at (pre_at p2 e1)) (acc := []) (fun p hp q sk h2 acc p2 e2 hl hk => ?_) (pre_snoc (List.prefix_refl _)) new_at (by simp; omega) fun h2 p2 e2 => ?_
    · refine wG_n ?_
      simp only [wipeA, List.set_cons_succ, List.set_cons_zero, if_true]
      rw [dctAt_none (i := 2) (d := pD p) rfl (fun a q => by cases q)]
      dsimp only [srcD, pD, List.getElem?_cons_succ, List.getElem?_cons_zero]
      refine ⟨trivial, ?_⟩
      refine wG_n ?_
      simp only [List.set_cons_succ, List.set_cons_zero, if_true, List.getElem?_cons_succ, List.getElem?_cons_zero]
      rw [e2]
      refine ⟨by rw [sizeLine_eq]; omega, trivial, ?_⟩
      refine wG_n ?_
      simp only [List.set_cons_succ, List.set_cons_zero, if_true, List.getElem?_cons_succ, List.getElem?_cons_zero]
      rw [set_self e2]
      refine ⟨by rw [sizeLine_eq]; simp only [List.length_append, List.length_cons, List.length_nil]; omega, trivial, ?_⟩
      rw [List.set_set, List.append_assoc]
      exact hk
    · refine wG_n ?_
      simp only [List.set_cons_succ, List.set_cons_zero]
      rw [List.nil_append] at e2
      -- which are the same
      refine wSs_c ?_
      simp only [wS, wE, wEs, wPs, kysOf, D.ky, wO, wT, wI, Op2.sem, Bi.sem, okS, okB, En.px, List.getElem?_cons_zero, List.getElem?_cons_succ, List.set_cons_zero, List.set_cons_succ, List.map_cons, List.map_nil, List.cons_append, List.nil_append, List.append_nil, Bool.false_eq_true, if_true, if_false, reduceIte]
      rw [lk_r1]
      dsimp only
      rw [lenS_ref (asL_at (pre_at p2 e1)), List.length_map]
      dsimp only
      refine ⟨by omega, ?_⟩
      rw [Int.toNat_natCast, show rangeD 0 P.length = (List.range P.length).map nD from fnD_range]
      refine wAcc_m (l := List.range P.length) nD (fun k => qD (2 * k, 2 * k + 1)) (fun _ _ => trivial) (fun k hk q sk h3 p3 hq => ?_) (by simp; omega) fun h3 p3 e3 => ?_
      · have hk : k < P.length := List.mem_range.mp hk
        simp only [wipeA, List.set_cons_succ, List.set_cons_zero]
        refine wG_n ?_
        simp only [wS, wE, wEs, wPs, kysOf, D.ky, wO, wT, wI, Op2.sem, Bi.sem, okS, okB, En.px, List.getElem?_cons_zero, List.getElem?_cons_succ, List.set_cons_zero, List.set_cons_succ, List.map_cons, List.map_nil, List.cons_append, List.nil_append, List.append_nil, Bool.false_eq_true, if_true, if_false, reduceIte]
        have m2 : mulS h3 (.int 2) (nD k) = some (nD (2 * k), h3) := by
          rw [show nD k = .int (k : Int) from rfl, mulS_p (by decide +kernel) (Nat.lt_of_lt_of_le (show (k : Int).natAbs < 2 ^ 10 by omega) (by decide +kernel))]
          show some (D.int (2 * (k : Int)), h3) = _
          rw [show (2 : Int) * (k : Int) = ((2 * k : Nat) : Int) from by omega]; rfl
        rw [m2]
        dsimp only
        rw [m2]
        dsimp only
        rw [show addS h3 (nD (2 * k)) (.int 1) = some (nD (2 * k + 1), h3) from addS_n (b := 1)]
        exact ⟨by rw [sizeLine_eq]; simp, hq _ (List.prefix_refl _)⟩
      · have e3' : h3[h2.length]? = some (O.lst ((smP P.length).map qD)) := by
          rw [e3]
          unfold smP
          rw [List.map_map]; rfl
        have p13 := p1.trans (p2.trans p3)
        refine rows_w hU hZ (j := j + 10) (pre_at p3 e2) e3' (fun t ht => (okf t ht).1) (by omega) (fun t ht => by have := (okf t ht).2; omega) (fun hn h4 p4 => ?_) (fun s sb sx h4 p4 => k1 ok s sb sx h4 (p13.trans p4)) fun s rows xs hm r m w h4 sz p4 S => ?_
        · refine wG_n ?_
          simp only [List.set_cons_succ, List.set_cons_zero]
          refine wSs_c ?_
          simp only [wS, wE, wEs, wPs, kysOf, D.ky, wO, wT, wI, Op2.sem, Bi.sem, okS, okB, En.px, List.getElem?_cons_zero, List.getElem?_cons_succ, List.set_cons_zero, List.set_cons_succ, List.map_cons, List.map_nil, List.cons_append, List.nil_append, List.append_nil, Bool.false_eq_true, if_true, if_false, reduceIte]
          rw [show isS h4 .non .non = some (.bl true, h4) from rfl]
          simp only [truD_b, if_true]
          refine wSs_c ?_
          simp only [wS, wE, wEs, wPs, kysOf, D.ky, wO, wT, wI, Op2.sem, Bi.sem, okS, okB, En.px, List.getElem?_cons_zero, List.getElem?_cons_succ, List.set_cons_zero, List.set_cons_succ, List.map_cons, List.map_nil, List.cons_append, List.nil_append, List.append_nil, Bool.false_eq_true, if_true, if_false, reduceIte]
          exact k0 ok hn h4 (p13.trans p4)
        · refine wG_n ?_
          simp only [List.set_cons_succ, List.set_cons_zero]
          refine wSs_c ?_
          simp only [wS, wE, wEs, wPs, kysOf, D.ky, wO, wT, wI, Op2.sem, Bi.sem, okS, okB, En.px, List.getElem?_cons_zero, List.getElem?_cons_succ, List.set_cons_zero, List.set_cons_succ, List.map_cons, List.map_nil, List.cons_append, List.nil_append, List.append_nil, Bool.false_eq_true, if_true, if_false, reduceIte]
          rw [show isS h4 (.tup [.ref r, .ref m, .ref w]) .non = some (.bl false, h4) from rfl]
          simp only [truD_b, Bool.false_eq_true, if_false]
          refine wSs_n (wSs_c ?_)
          simp only [wS, wE, wEs, wPs, kysOf, D.ky, wO, wT, wI, Op2.sem, Bi.sem, okS, okB, En.px, List.getElem?_cons_zero, List.getElem?_cons_succ, List.set_cons_zero, List.set_cons_succ, List.map_cons, List.map_nil, List.cons_append, List.nil_append, List.append_nil, Bool.false_eq_true, if_true, if_false, reduceIte]
          refine wG_3 ?_
          simp only [List.set_cons_succ, List.set_cons_zero]
          refine wSs_c ?_
          simp only [wS, wE, wEs, wPs, kysOf, D.ky, wO, wT, wI, Op2.sem, Bi.sem, okS, okB, En.px, List.getElem?_cons_zero, List.getElem?_cons_succ, List.set_cons_zero, List.set_cons_succ, List.map_cons, List.map_nil, List.cons_append, List.nil_append, List.append_nil, Bool.false_eq_true, if_true, if_false, reduceIte]
          refine written_w hU S.cr S.ok S.len S.ar fun b h5 p5 e5 => wG_n ?_
          simp only [List.set_cons_succ, List.set_cons_zero]
          have S5 := S.ext p5
          refine wSs_c ?_
          simp only [wS, wE, wEs, wPs, kysOf, D.ky, wO, wT, wI, Op2.sem, Bi.sem, okS, okB, En.px, List.getElem?_cons_zero, List.getElem?_cons_succ, List.set_cons_zero, List.set_cons_succ, List.map_cons, List.map_nil, List.cons_append, List.nil_append, List.append_nil, Bool.false_eq_true, if_true, if_false, reduceIte]
          simp only [lk_of']
          rw [sortd_at S5.cm (hv xs S.nd S.mem) S.nd]
          dsimp only [srcD]
          rw [asL_at new_at]
          dsimp only
          have p6 := pre_snoc (List.prefix_refl h5) (o := O.lst ((ssort xs).map D.str))
          have lss : (ssort xs).length ≤ 1000 := by
            have n1 : (ssort xs).Nodup := (ssort_up xs).imp fun hab e => by rw [e] at hab; exact List.lt_irrefl _ hab
            have := nodup_len n1 fun x hx => ssort_mem.1 hx
            have := hv xs S.nd S.mem
            omega
          refine wAccD_xs (h0 := h5 ++ [O.lst ((ssort xs).map D.str)]) (l := ssort xs) (acc := []) D.str (fun x => some (.s x, dT (s x))) (fun h7 p7 => asL_at (pre_at p7 new_at)) (fun x hx q sk h7 p7 hq _ => ?_) (pre_snoc (List.prefix_refl _)) new_at (by simp; omega) fun h7 p7 e7 => ?_
          · have hx2 : x ∈ xs := ssort_mem.1 hx
            simp only [wipeA, List.set_cons_succ, List.set_cons_zero]
            refine wG_n ?_
            simp only [wS, wE, wEs, wPs, kysOf, D.ky, wO, wT, wI, Op2.sem, Bi.sem, okS, okB, En.px, List.getElem?_cons_zero, List.getElem?_cons_succ, List.set_cons_zero, List.set_cons_succ, List.map_cons, List.map_nil, List.cons_append, List.nil_append, List.append_nil, Bool.false_eq_true, if_true, if_false, reduceIte]
            rw [ixS_word (pre_at (p6.trans p7) S5.cm) hx2]
            dsimp only
            obtain ⟨a1, a2⟩ := S.at_ x hx2
            rw [ixS_at (d := dT (s x)) (pre_at (p6.trans p7) e5) (by
              rw [List.getElem?_map, a2, List.getD_eq_getElem?_getD, List.getElem?_eq_getElem (by rw [tell_len]; exact a1)]; rfl)]
            exact hq _ rfl _ (List.prefix_refl _)
          · obtain ⟨ks, f1, f2, f3⟩ := merge_sK (f := fun x => dT (s x)) (ssort xs) (ks := []) List.nodup_nil
            refine k2 ok s ks _ h7 S.best sz ((p13.trans p4).trans (p5.trans (p6.trans p7))) ?_ f2 fun x => ?_
            · rw [e7, filterMap_some, ← f1]; rfl
            · rw [f3, ssort_mem, S.mem]; simp
end
end Mi

set_option Elab.async false
set_option linter.all false
set_option maxRecDepth 100000
set_option maxHeartbeats 4000000
/-! great terms: the law's own defs, in the order of its text -/
namespace Mi
open PySem PySem.Spec PyProof.Rows L2
namespace G6
def b25 : Mi.Fd := ⟨1, 5, (.cons (.asg (.n 1) (.k .non))
  (.cons (.asg (.n 2) (.k .non))
  (.cons (.tryAs (.cons (.asg (.n 2) (.call 8 (.cons (.v 0) .nil)))
  .nil) 0 3 1)
  (.cons (.ite (.op .iss (.v 1) (.k .non)) (.cons (.ret (.v 2))
  .nil) .nil)
  (.cons (.asg (.n 4) (.lst (.cons (.isx 3 (.v 1)) (.cons (.isx 2 (.v 1)) (.cons (.isx 1 (.v 1)) .nil)))))
  (.cons (.ret (.op .ix (.lst (.cons (.k (.str [111, 116, 104, 101, 114])) (.cons (.k (.str [109, 97, 110, 121])) .nil))) (.bi .int (.cons (.and (.op .eq (.v 4) (.lst (.cons (.k (.bl true)) (.cons (.k (.bl false)) (.cons (.k (.bl false)) .nil))))) (.isx 4 (.v 1))) .nil))))
  .nil))))))⟩
def b26 : Mi.Fd := ⟨1, 1, (.cons (.ret (.op .ix (.k (.str [65, 66, 67, 68, 69, 70, 71, 72, 73, 74, 75, 76, 77, 78, 79, 80, 81, 82, 83, 84, 85, 86, 87, 88, 89, 90])) (.v 0)))
  .nil)⟩
def b27 : Mi.Fd := ⟨2, 4, (.cons (.asg (.n 2) (.lst .nil))
  (.cons (.loop (.n 3) (.r1 (.v 0)) (.cons (.ex (.mt .append (.v 2) (.cons (.tup (.cons (.call 26 (.cons (.v 3) .nil)) (.cons (.tup (.cons (.k (.str [102])) (.cons (.op .mul (.tup (.cons (.call 26 (.cons (.op .add (.v 3) (.k (.int 1))) .nil)) .nil)) (.v 1)) .nil))) .nil))) .nil)))
  .nil))
  (.cons (.ret (.v 2))
  .nil)))⟩
def b28 : Mi.Fd := ⟨3, 5, (.cons (.asg (.n 3) (.v 2))
  (.cons (.loop (.n 4) (.r1 (.v 0)) (.cons (.asg (.n 3) (.tup (.cons (.k (.str [102])) (.cons (.op .mul (.tup (.cons (.v 3) .nil)) (.v 1)) .nil))))
  .nil))
  (.cons (.ret (.v 3))
  .nil)))⟩
def b29 : Mi.Fd := ⟨2, 7, (.cons (.par 2 3 (.v 1) (.lst .nil))
  (.cons (.whl (.op .ne (.v 2) (.lst .nil)) (.cons (.asg (.n 4) (.call 24 (.cons (.v 0) (.cons (.bi .len (.cons (.v 2) .nil)) .nil))))
  (.cons (.asg (.t (.cons (.n 5) (.cons (.n 6) .nil))) (.op .ix (.v 2) (.v 4)))
  (.cons (.ex (.mt .append (.v 3) (.cons (.op .ix (.lst (.cons (.tup (.cons (.v 5) (.cons (.v 6) .nil))) (.cons (.tup (.cons (.v 6) (.cons (.v 5) .nil))) .nil))) (.call 24 (.cons (.v 0) (.cons (.k (.int 2)) .nil)))) .nil)))
  (.cons (.asg (.n 2) (.op .add (.sl (.v 2) .no (.so (.v 4))) (.sl (.v 2) (.so (.op .add (.v 4) (.k (.int 1)))) .no)))
  .nil)))))
  (.cons (.ret (.v 3))
  .nil)))⟩
def b30 : Mi.Fd := ⟨2, 4, (.cons (.asg (.n 2) (.lst (.cons (.k (.int 1)) .nil)))
  (.cons (.loop (.n 3) (.r1 (.v 0)) (.cons (.ex (.mt .append (.v 2) (.cons (.op .add (.k (.int 1)) (.op .mul (.v 1) (.op .ix (.v 2) (.neg (.k (.int 1)))))) .nil)))
  .nil))
  (.cons (.ret (.v 2))
  .nil)))⟩
def b31 : Mi.Fd := ⟨3, 7, (.cons (.asg (.n 3) (.call 29 (.cons (.v 0) (.cons (.call 27 (.cons (.v 1) (.cons (.v 2) .nil))) .nil))))
  (.cons (.par 4 5 (.call 25 (.cons (.v 3) .nil)) (.call 30 (.cons (.v 1) (.cons (.v 2) .nil))))
  (.cons (.ite (.op .gt (.op .ix (.v 5) (.neg (.k (.int 1)))) (.k (.int 60))) (.cons (.ret (.op .eq (.v 4) (.k (.str [109, 97, 110, 121]))))
  .nil) .nil)
  (.cons (.loop (.n 6) (.r1 (.op .add (.v 1) (.k (.int 1)))) (.cons (.ite (.op .ne (.op .ix (.v 4) (.call 26 (.cons (.v 6) .nil))) (.call 28 (.cons (.op .sub (.v 1) (.v 6)) (.cons (.v 2) (.cons (.call 26 (.cons (.v 1) .nil)) .nil))))) (.cons (.ret (.k (.bl false)))
  .nil) .nil)
  .nil))
  (.cons (.ret (.op .eq (.bi .len (.cons (.v 4) .nil)) (.op .add (.v 1) (.k (.int 1)))))
  .nil)))))⟩
def b32 : Mi.Fd := ⟨2, 8, (.cons (.asg (.n 2) (.lst .nil))
  (.cons (.loop (.n 3) (.r1 (.v 1)) (.cons (.asg (.n 4) (.cp (.n 5) (.r1 (.k (.int 5))) .no (.op .add (.v 0) (.call 26 (.cons (.op .add (.op .mul (.k (.int 4)) (.v 3)) (.v 5)) .nil))) [5]))
  (.cons (.asg (.n 6) (.tup (.cons (.k (.str [104])) (.cons (.bi .tuple (.cons (.sl (.v 4) (.so (.k (.int 1))) .no) .nil)) .nil))))
  (.cons (.asg (.n 7) (.tup (.cons (.k (.str [104])) (.cons (.bi .tuple (.cons (.cp (.n 5) (.r1 (.k (.int 4))) .no (.tup (.cons (.k (.str [102])) (.cons (.tup (.cons (.op .ix (.v 4) (.v 5)) (.cons (.op .ix (.v 4) (.v 5)) .nil))) .nil))) [5]) .nil)) .nil))))
  (.cons (.ex (.mt .append (.v 2) (.cons (.op .ix (.lst (.cons (.tup (.cons (.v 6) (.cons (.v 7) .nil))) (.cons (.tup (.cons (.v 7) (.cons (.v 6) .nil))) .nil))) (.op .mod (.v 3) (.k (.int 2)))) .nil)))
  .nil)))))
  (.cons (.ret (.v 2))
  .nil)))⟩
def b33 : Mi.Fd := ⟨1, 11, (.cons (.asg (.n 1) (.op .add (.op .add (.call 32 (.cons (.k (.str [88])) (.cons (.k (.int 4)) .nil))) (.call 32 (.cons (.k (.str [89])) (.cons (.k (.int 4)) .nil)))) (.lst (.cons (.tup (.cons (.k (.str [88, 81])) (.cons (.k (.str [89, 81])) .nil))) .nil))))
  (.cons (.loop (.t (.cons (.n 2) (.cons (.n 3) (.cons (.n 4) .nil)))) (.of (.lst (.cons (.tup (.cons (.k (.str [97])) (.cons (.k (.str [98])) (.cons (.k .non) .nil)))) (.cons (.tup (.cons (.k (.str [97])) (.cons (.k (.str [97])) (.cons (.k (.str [109, 97, 110, 121])) .nil)))) (.cons (.tup (.cons (.k (.str [98])) (.cons (.k (.str [97])) (.cons (.k .non) .nil)))) .nil))))) (.cons (.asg (.n 5) (.op .add (.v 1) (.lst (.cons (.tup (.cons (.tup (.cons (.k (.str [103])) (.cons (.tup (.cons (.k (.str [88, 65])) (.cons (.k (.str [89, 65])) .nil))) .nil))) (.cons (.tup (.cons (.k (.str [103])) (.cons (.tup (.cons (.tup (.cons (.v 2) (.cons (.tup .nil) .nil))) (.cons (.tup (.cons (.v 3) (.cons (.tup .nil) .nil))) .nil))) .nil))) .nil))) .nil))))
  (.cons (.ite (.op .ne (.call 25 (.cons (.call 29 (.cons (.v 0) (.cons (.v 5) .nil))) .nil)) (.v 4)) (.cons (.ret (.k (.bl false)))
  .nil) .nil)
  .nil)))
  (.cons (.asg (.n 6) (.lst .nil))
  (.cons (.loop (.n 7) (.r1 (.k (.int 10))) (.cons (.asg (.n 8) (.op .add (.k (.str [90])) (.call 26 (.cons (.op .add (.v 7) (.k (.int 1))) .nil))))
  (.cons (.loop (.n 9) (.r1 (.k (.int 4))) (.cons (.asg (.n 8) (.tup (.cons (.k (.str [102])) (.cons (.tup (.cons (.v 8) .nil)) .nil))))
  .nil))
  (.cons (.ex (.mt .append (.v 6) (.cons (.tup (.cons (.op .add (.k (.str [90])) (.call 26 (.cons (.v 7) .nil))) (.cons (.v 8) .nil))) .nil)))
  .nil))))
  (.cons (.asg (.n 10) (.call 25 (.cons (.call 29 (.cons (.v 0) (.cons (.v 6) .nil))) .nil)))
  (.cons (.ite (.or (.op .ne (.op .ix (.v 10) (.k (.str [90, 74]))) (.op .ix (.op .ix (.v 6) (.k (.int 9))) (.k (.int 1)))) (.op .ne (.bi .len (.cons (.v 10) .nil)) (.k (.int 11)))) (.cons (.ret (.k (.bl false)))
  .nil) .nil)
  (.cons (.ret (.op .iss (.call 25 (.cons (.call 29 (.cons (.v 0) (.cons (.op .add (.sl (.v 6) (.so (.k (.int 1))) .no) (.lst (.cons (.tup (.cons (.k (.str [90, 75])) (.cons (.k (.str [90, 66])) .nil))) .nil))) .nil))) .nil)) (.k .non)))
  .nil)))))))⟩
def b34 : Mi.Fd := ⟨1, 11, (.cons (.asg (.n 1) (.call 23 (.cons (.v 0) .nil)))
  (.cons (.loop (.n 2) (.r2 (.k (.int 1)) (.k (.int 11))) (.cons (.loop (.n 3) (.of (.lst (.cons (.k (.int 1)) (.cons (.k (.int 2)) (.cons (.k (.int 3)) (.cons (.k (.int 4)) .nil)))))) (.cons (.ite (.not (.call 31 (.cons (.v 1) (.cons (.v 2) (.cons (.v 3) .nil))))) (.cons (.ret (.k (.bl false)))
  .nil) .nil)
  .nil))
  .nil))
  (.cons (.loop (.n 2) (.of (.lst (.cons (.k (.int 5)) (.cons (.k (.int 9)) .nil)))) (.cons (.asg (.n 4) (.call 27 (.cons (.v 2) (.cons (.k (.int 2)) .nil))))
  (.cons (.asg (.n 5) (.call 26 (.cons (.v 2) .nil)))
  (.cons (.asg (.n 6) (.lst (.cons (.tup (.cons (.v 5) (.cons (.tup (.cons (.k (.str [102])) (.cons (.tup (.cons (.k (.str [65])) .nil)) .nil))) .nil))) (.cons (.tup (.cons (.v 5) (.cons (.tup (.cons (.k (.str [103])) (.cons (.tup (.cons (.k (.str [65])) (.cons (.k (.str [81])) .nil))) .nil))) .nil))) (.cons (.tup (.cons (.tup (.cons (.k (.str [103])) (.cons (.tup (.cons (.k (.str [65])) .nil)) .nil))) (.cons (.tup (.cons (.k (.str [104])) (.cons (.tup (.cons (.k (.str [65])) .nil)) .nil))) .nil))) .nil)))))
  (.cons (.ex (.mt .append (.v 6) (.cons (.tup (.cons (.v 5) (.cons (.tup (.cons (.k (.str [103])) (.cons (.tup (.cons (.k (.str [81])) (.cons (.k (.str [65])) .nil))) .nil))) .nil))) .nil)))
  (.cons (.loop (.n 7) (.of (.op .add (.v 6) (.lst (.cons (.tup (.cons (.k (.str [65])) (.cons (.tup (.cons (.k (.str [103])) (.cons (.tup (.cons (.k (.str [90])) (.cons (.k (.str [90])) .nil))) .nil))) .nil))) .nil)))) (.cons (.ite (.op .isnt (.call 25 (.cons (.call 29 (.cons (.v 1) (.cons (.op .add (.v 4) (.lst (.cons (.v 7) .nil))) .nil))) .nil)) (.k .non)) (.cons (.ret (.k (.bl false)))
  .nil) .nil)
  .nil))
  (.cons (.ite (.op .ne (.call 25 (.cons (.call 29 (.cons (.v 1) (.cons (.op .add (.v 4) (.lst (.cons (.tup (.cons (.v 5) (.cons (.tup (.cons (.k (.str [97])) (.cons (.tup .nil) .nil))) .nil))) .nil))) .nil))) .nil)) (.k (.str [109, 97, 110, 121]))) (.cons (.ret (.k (.bl false)))
  .nil) .nil)
  .nil)))))))
  (.cons (.ite (.not (.call 33 (.cons (.v 1) .nil))) (.cons (.ret (.k (.bl false)))
  .nil) .nil)
  (.cons (.asg (.n 8) (.lst (.cons (.tup (.cons (.k (.str [65])) (.cons (.tup (.cons (.k (.str [102])) (.cons (.tup (.cons (.k (.str [66])) (.cons (.k (.str [66])) .nil))) .nil))) .nil))) (.cons (.tup (.cons (.k (.str [67])) (.cons (.tup (.cons (.k (.str [102])) (.cons (.tup (.cons (.k (.str [68])) (.cons (.k (.str [68])) .nil))) .nil))) .nil))) (.cons (.tup (.cons (.k (.str [65])) (.cons (.k (.str [67])) .nil))) .nil)))))
  (.cons (.asg (.n 8) (.op .add (.v 8) (.lst (.cons (.tup (.cons (.k (.str [66])) (.cons (.tup (.cons (.k (.str [102])) (.cons (.tup (.cons (.k (.str [69])) (.cons (.k (.str [69])) .nil))) .nil))) .nil))) (.cons (.tup (.cons (.k (.str [68])) (.cons (.tup (.cons (.k (.str [102])) (.cons (.tup (.cons (.k (.str [71])) (.cons (.k (.str [71])) .nil))) .nil))) .nil))) .nil)))))
  (.cons (.asg (.n 9) (.call 25 (.cons (.call 29 (.cons (.v 1) (.cons (.v 8) .nil))) .nil)))
  (.cons (.asg (.n 10) (.tup (.cons (.k (.str [102])) (.cons (.tup (.cons (.tup (.cons (.k (.str [102])) (.cons (.tup (.cons (.k (.str [69])) (.cons (.k (.str [69])) .nil))) .nil))) (.cons (.tup (.cons (.k (.str [102])) (.cons (.tup (.cons (.k (.str [69])) (.cons (.k (.str [69])) .nil))) .nil))) .nil))) .nil))))
  (.cons (.ret (.op .eq (.v 9) (.dct (.cons (.k (.str [65])) (.v 10) (.cons (.k (.str [66])) (.op .ix (.op .ix (.v 10) (.k (.int 1))) (.k (.int 0))) (.cons (.k (.str [67])) (.v 10) (.cons (.k (.str [68])) (.op .ix (.op .ix (.v 10) (.k (.int 1))) (.k (.int 0))) (.cons (.k (.str [69])) (.k (.str [69])) (.cons (.k (.str [71])) (.k (.str [69])) .nil)))))))))
  .nil)))))))))⟩

end G6
def HasG (B : List Fd) : Prop := HasU B ∧ B[23]? = some bSource ∧ B[24]? = some bDraw ∧ B[25]? = some G6.b25 ∧ B[26]? = some G6.b26 ∧ B[27]? = some G6.b27 ∧ B[28]? = some G6.b28 ∧ B[29]? = some G6.b29 ∧ B[30]? = some G6.b30 ∧ B[31]? = some G6.b31 ∧ B[32]? = some G6.b32 ∧ B[33]? = some G6.b33 ∧ B[34]? = some G6.b34
structure Z06 (Z : Zi) : Prop where
  nx : Z.nx = 4
  l20 : Z.le 2 0 = true
  l30 : Z.le 3 0 = true
  l33 : Z.le 3 3 = true
  l32 : Z.le 3 2 = false
  l31 : Z.le 3 1 = false
  l34 : Z.le 3 4 = true
  m2 : ∀ d : D, Z.mkf 2 [d] = some []
  m3 : ∀ d : D, Z.mkf 3 [d] = some []
end Mi

set_option Elab.async false
set_option linter.all false
set_option maxRecDepth 100000
set_option maxHeartbeats 4000000
/-! great terms: what is told; pairs mixed -/
namespace Mi
open PySem PySem.Spec PyProof.Rows L2 Un
def many : List Nat := [109, 97, 110, 121]
/-- what unified tells -/
def Ans6 (P : Uprs) (d : D) (h' : Hh) : Prop := (d = .non ∧ ¬ ∃ r, Unif r P) ∨ (d = .str many ∧ ∃ s, Best s P ∧ ∃ x, x ∈ Vs P ∧ 60 < (s x).size) ∨ ∃ (s : Wd → Tx) (ks : List Wd) (m : Nat), d = .ref m ∧ Best s P ∧ (∀ x, x ∈ Vs P → (s x).size ≤ 60) ∧ h'[m]? = some (O.dct false (sK ks fun x => dT (s x))) ∧ ks.Nodup ∧ ∀ x, x ∈ ks ↔ x ∈ Vs P
theorem eqS_le {h : Hh} {i j : Nat} {xs ys : List D} (e1 : asL h (.ref i) = some xs) (e2 : asL h (.ref j) = some ys) (hl : xs.length = ys.length) (he : eqL (eqV h 189) xs ys = some true) : eqS h (.ref i) (.ref j) = some (.bl true, h) := by
  unfold eqS eqTop
  rw [asK_of e1, asK_of e2]
  unfold eqV
  dsimp only
  rw [e1, e2]
  dsimp only
  by_cases hij : i = j
  · rw [if_pos hij]; rfl
  · rw [if_neg hij, if_pos hl, he]; rfl
theorem neS_lx {h : Hh} {i j : Nat} {xs ys : List D} (e1 : asL h (.ref i) = some xs) (e2 : asL h (.ref j) = some ys) (hij : i ≠ j) (hl : xs.length ≠ ys.length) : neS h (.ref i) (.ref j) = some (.bl true, h) := by
  have := eqS_ll e1 e2 hij hl
  unfold eqS at this
  unfold neS
  cases e : eqTop h (.ref i) (.ref j) with
  | none => rw [e] at this; cases this
  | some b => rw [e] at this; cases this; rfl
section
variable {Z : Zi} {B : List Fd} (hG : HasG B) (z : Z06 Z)
include hG z
theorem told_w {j a : Nat} {P : Uprs} {h : Hh} {Q : PQ} {Qx : PX} (ea : h[a]? = some (.lst (P.map pD))) (hs : ∀ p ∈ P, smT p.1 = true ∧ smT p.2 = true) (hv : ∀ xs : List Wd, xs.Nodup → (∀ x, x ∈ xs ↔ x ∈ Vs P) → xs.length < 64) (ok : okP P = true)
    (k : ∀ d h', h <+: h' → Ans6 P d h' → Q d h') : WPc Z B (j + 15) 25 [.ref a] h Q Qx := by
  unfold WPc
  rw [hG.2.2.2.1]
  refine ⟨rfl, ?_⟩
  show wSs Z _ G6.b25.body _ [some (.ref a), none, none, none, none] h
  unfold G6.b25
  refine wSs_c ?_
  simp only [wS, wE, wEs, wPs, kysOf, D.ky, wO, wT, wI, Op2.sem, Bi.sem, okS, okB, En.px, List.getElem?_cons_zero, List.getElem?_cons_succ, List.set_cons_zero, List.set_cons_succ, List.map_cons, List.map_nil, List.cons_append, List.nil_append, List.append_nil, Bool.false_eq_true, if_true, if_false, reduceIte]
  refine wG_n ?_
  refine wSs_c ?_
  simp only [wS, wE, wEs, wPs, kysOf, D.ky, wO, wT, wI, Op2.sem, Bi.sem, okS, okB, En.px, List.getElem?_cons_zero, List.getElem?_cons_succ, List.set_cons_zero, List.set_cons_succ, List.map_cons, List.map_nil, List.cons_append, List.nil_append, List.append_nil, Bool.false_eq_true, if_true, if_false, reduceIte]
  refine wG_n ?_
  refine wSs_c ?_
  simp only [wS]
  refine wSs_c ?_
  simp only [wS, wE, wEs, wPs, kysOf, D.ky, wO, wT, wI, Op2.sem, Bi.sem, okS, okB, En.px, List.getElem?_cons_zero, List.getElem?_cons_succ, List.set_cons_zero, List.set_cons_succ, List.map_cons, List.map_nil, List.cons_append, List.nil_append, List.append_nil, Bool.false_eq_true, if_true, if_false, reduceIte]
  refine unified_w hG.1 z.m3 z.m2 ea hs hv (fun e => by rw [ok] at e; cases e) (fun _ hn h1 p1 => ?_) (fun _ s sb sx h1 p1 => ?_) fun _ s ks m h1 sb sz p1 e1 nd mem => ?_
  · refine wG_n (wSs_n (wSs_c ?_))
    simp only [wS, wE, wEs, wPs, kysOf, D.ky, wO, wT, wI, Op2.sem, Bi.sem, okS, okB, En.px, List.getElem?_cons_zero, List.getElem?_cons_succ, List.set_cons_zero, List.set_cons_succ, List.map_cons, List.map_nil, List.cons_append, List.nil_append, List.append_nil, Bool.false_eq_true, if_true, if_false, reduceIte]
    rw [show isS h1 .non .non = some (.bl true, h1) from rfl]
    simp only [truD_b, if_true]
    refine wSs_c ?_
    simp only [wS, wE, wEs, wPs, kysOf, D.ky, wO, wT, wI, Op2.sem, Bi.sem, okS, okB, En.px, List.getElem?_cons_zero, List.getElem?_cons_succ, List.set_cons_zero, List.set_cons_succ, List.map_cons, List.map_nil, List.cons_append, List.nil_append, List.append_nil, Bool.false_eq_true, if_true, if_false, reduceIte]
    exact k _ _ p1 (.inl ⟨rfl, hn⟩)
  · refine ⟨by rw [z.nx]; decide, ?_⟩
    rw [z.l30, if_pos rfl]
    simp only [List.set_cons_succ, List.set_cons_zero]
    refine wSs_c ?_
    simp only [wS, wE, wEs, wPs, kysOf, D.ky, wO, wT, wI, Op2.sem, Bi.sem, okS, okB, En.px, List.getElem?_cons_zero, List.getElem?_cons_succ, List.set_cons_zero, List.set_cons_succ, List.map_cons, List.map_nil, List.cons_append, List.nil_append, List.append_nil, Bool.false_eq_true, if_true, if_false, reduceIte]
    rw [show isS h1 (.exn 3 []) .non = some (.bl false, h1) from rfl]
    simp only [truD_b, Bool.false_eq_true, if_false]
    refine wSs_n (wSs_c ?_)
    simp only [wS, wE, wEs, wPs, kysOf, D.ky, wO, wT, wI, Op2.sem, Bi.sem, okS, okB, En.px, List.getElem?_cons_zero, List.getElem?_cons_succ, List.set_cons_zero, List.set_cons_succ, List.map_cons, List.map_nil, List.cons_append, List.nil_append, List.append_nil, Bool.false_eq_true, if_true, if_false, reduceIte]
    rw [z.nx, z.l33, z.l32, z.l31]
    refine ⟨by decide, by decide, by decide, by rw [sizeLine_eq]; simp, wG_n ?_⟩
    simp only [List.set_cons_succ, List.set_cons_zero]
    refine wSs_c ?_
    simp only [wS, wE, wEs, wPs, kysOf, D.ky, wO, wT, wI, Op2.sem, Bi.sem, okS, okB, En.px, List.getElem?_cons_zero, List.getElem?_cons_succ, List.set_cons_zero, List.set_cons_succ, List.map_cons, List.map_nil, List.cons_append, List.nil_append, List.append_nil, Bool.false_eq_true, if_true, if_false, reduceIte]
    refine ⟨by rw [sizeLine_eq]; simp, by rw [sizeLine_eq]; simp, ?_⟩
    have n1 : (h1 ++ [O.lst [D.bl true, .bl false, .bl false]])[h1.length]? = some (O.lst [D.bl true, .bl false, .bl false]) := new_at
    have n2 := pre_at (pre_snoc (pre_snoc (List.prefix_refl _) (o := O.lst [D.str [111, 116, 104, 101, 114], D.str [109, 97, 110, 121]])) (o := O.lst [D.bl true, .bl false, .bl false])) n1
    rw [eqS_le (asL_at n2) (asL_at new_at) rfl rfl]
    simp only [truD_b, if_true]
    rw [z.nx, z.l34]
    refine ⟨by decide, ?_⟩
    rw [intS_b, if_pos rfl]
    dsimp only
    rw [ixS_ref (asL_at (pre_at (pre_snoc (List.prefix_refl _)) new_at)) (show atI [D.str [111, 116, 104, 101, 114], D.str [109, 97, 110, 121]] 1 = some (.str [109, 97, 110, 121]) from by rfl)]
    exact k _ _ (pre_snoc (pre_snoc (pre_snoc p1))) (.inr (.inl ⟨rfl, s, sb, sx⟩))
  · refine wG_n (wSs_n (wSs_c ?_))
    simp only [wS, wE, wEs, wPs, kysOf, D.ky, wO, wT, wI, Op2.sem, Bi.sem, okS, okB, En.px, List.getElem?_cons_zero, List.getElem?_cons_succ, List.set_cons_zero, List.set_cons_succ, List.map_cons, List.map_nil, List.cons_append, List.nil_append, List.append_nil, Bool.false_eq_true, if_true, if_false, reduceIte]
    rw [show isS h1 .non .non = some (.bl true, h1) from rfl]
    simp only [truD_b, if_true]
    refine wSs_c ?_
    simp only [wS, wE, wEs, wPs, kysOf, D.ky, wO, wT, wI, Op2.sem, Bi.sem, okS, okB, En.px, List.getElem?_cons_zero, List.getElem?_cons_succ, List.set_cons_zero, List.set_cons_succ, List.map_cons, List.map_nil, List.cons_append, List.nil_append, List.append_nil, Bool.false_eq_true, if_true, if_false, reduceIte]
    exact k _ _ p1 (.inr (.inr ⟨s, ks, m, rfl, sb, sz, e1, nd, mem⟩))
end
/-! ### mixed pairs -/
structure MixP (P P' : Uprs) : Prop where
  len : P'.length = P.length
  to : ∀ p, p ∈ P' → p ∈ P ∨ (p.2, p.1) ∈ P
  fro : ∀ p, p ∈ P → p ∈ P' ∨ (p.2, p.1) ∈ P'
theorem MixP.unif {P P' : Uprs} (M : MixP P P') (r : Wd → Tx) : Unif r P' ↔ Unif r P := by
  constructor
  · intro h p hp
    rcases M.fro p hp with q | q
    · exact h p q
    · exact (h _ q).symm
  · intro h p hp
    rcases M.to p hp with q | q
    · exact h p q
    · exact (h _ q).symm
theorem MixP.vs {P P' : Uprs} (M : MixP P P') (x : Wd) : x ∈ Vs P' ↔ x ∈ Vs P := by
  unfold Vs
  rw [List.mem_flatMap, List.mem_flatMap]
  constructor
  · rintro ⟨p, hp, hx⟩
    rcases M.to p hp with q | q
    · exact ⟨p, q, hx⟩
    · exact ⟨_, q, by rw [List.mem_append] at hx ⊢; exact hx.symm⟩
  · rintro ⟨p, hp, hx⟩
    rcases M.fro p hp with q | q
    · exact ⟨p, q, hx⟩
    · exact ⟨_, q, by rw [List.mem_append] at hx ⊢; exact hx.symm⟩
theorem MixP.ok {P P' : Uprs} (M : MixP P P') (h : okP P = true) : okP P' = true := by
  unfold okP at *
  rw [Bool.and_eq_true, decide_eq_true_iff, List.all_eq_true] at *
  refine ⟨by rw [M.len]; exact h.1, fun p hp => ?_⟩
  rcases M.to p hp with q | q
  · exact h.2 p q
  · have := h.2 _ q
    rw [Bool.and_eq_true] at this ⊢
    exact ⟨this.2, this.1⟩
theorem MixP.sm {P P' : Uprs} (M : MixP P P') (h : ∀ p ∈ P, smT p.1 = true ∧ smT p.2 = true) : ∀ p ∈ P', smT p.1 = true ∧ smT p.2 = true := fun p hp => by
  rcases M.to p hp with q | q
  · exact h p q
  · exact ⟨(h _ q).2, (h _ q).1⟩
/-- the same for the pairs as they were -/
theorem Ans6.mix {P P' : Uprs} {d : D} {h' : Hh} (M : MixP P P') (A : Ans6 P' d h') : (d = .non ∧ ¬ ∃ r, Unif r P) ∨ (d = .str many ∧ ∃ s, Best s P' ∧ ∃ x, x ∈ Vs P ∧ 60 < (s x).size) ∨ ∃ (s : Wd → Tx) (ks : List Wd) (m : Nat), d = .ref m ∧ Best s P' ∧ (∀ x, x ∈ Vs P → (s x).size ≤ 60) ∧ h'[m]? = some (O.dct false (sK ks fun x => dT (s x))) ∧ ks.Nodup ∧ ∀ x, x ∈ ks ↔ x ∈ Vs P := by
  rcases A with ⟨a, b⟩ | ⟨a, s, b, x, c, e⟩ | ⟨s, ks, m, a, b, c, e, f, g⟩
  · exact .inl ⟨a, fun ⟨r, hr⟩ => b ⟨r, (M.unif r).2 hr⟩⟩
  · exact .inr (.inl ⟨a, s, b, x, (M.vs x).1 c, e⟩)
  · exact .inr (.inr ⟨s, ks, m, a, b, fun x hx => c x ((M.vs x).2 hx), e, f, fun x => by rw [g, M.vs]⟩)
theorem Ans6.none {P P' : Uprs} {d : D} {h' : Hh} (M : MixP P P') (A : Ans6 P' d h') (hn : ¬ ∃ r, Unif r P) : d = .non := by
  rcases A.mix M with ⟨a, _⟩ | ⟨_, s, b, _⟩ | ⟨s, _, _, _, b, _⟩
  · exact a
  · exact absurd ⟨s, (M.unif s).1 b.sol⟩ hn
  · exact absurd ⟨s, (M.unif s).1 b.sol⟩ hn
theorem Ans6.great {P P' : Uprs} {d : D} {h' : Hh} (M : MixP P P') (A : Ans6 P' d h') (hu : ∃ r, Unif r P) (hb : ∀ r, Unif r P → ∃ x, x ∈ Vs P ∧ 60 < (r x).size) : d = .str many := by
  rcases A.mix M with ⟨_, a⟩ | ⟨a, _⟩ | ⟨s, _, _, _, b, c, _⟩
  · exact absurd hu a
  · exact a
  · obtain ⟨x, hx, e⟩ := hb s ((M.unif s).1 b.sol)
    have := c x hx
    omega
theorem Ans6.best {P P' : Uprs} {d : D} {h' : Hh} (M : MixP P P') (A : Ans6 P' d h') {s : Wd → Tx} (hb : Best s P) (hs : ∀ x, x ∈ Vs P → (s x).size ≤ 60) : ∃ (ks : List Wd) (m : Nat), d = .ref m ∧ h'[m]? = some (O.dct false (sK ks fun x => dT (s x))) ∧ ks.Nodup ∧ ∀ x, x ∈ ks ↔ x ∈ Vs P := by
  rcases A.mix M with ⟨_, a⟩ | ⟨_, s', b, x, hx, e⟩ | ⟨s', ks, m, a, b, c, e, f, g⟩
  · exact absurd ⟨s, hb.sol⟩ a
  · have := hb.one b (fun r => (M.unif r).symm) (fun x => (M.vs x).symm) x hx
    have := hs x hx
    rw [‹s x = s' x›] at this
    omega
  · refine ⟨ks, m, a, ?_, f, g⟩
    rw [e]
    congr 2
    unfold sK
    refine List.map_congr_left fun x hx => ?_
    dsimp only
    rw [hb.one b (fun r => (M.unif r).symm) (fun x => (M.vs x).symm) x ((g x).1 hx)]
end Mi

set_option Elab.async false
set_option linter.all false
set_option maxRecDepth 100000
set_option maxHeartbeats 4000000
/-! great terms: pairs in a drawn order, with sides exchanged -/
namespace Mi
open PySem PySem.Spec PyProof.Rows L2 Un
/-- all but the place that is drawn from stays -/
structure Kp (s c : Nat) (h h' : Hh) : Prop where
  len : h.length ≤ h'.length
  at_ : ∀ j, j < h.length → j ≠ s → j ≠ c → h'[j]? = h[j]?
variable {s c : Nat} {h h' h'' : Hh}
theorem Kp.refl (h : Hh) : Kp s c h h := ⟨Nat.le_refl _, fun _ _ _ _ => rfl⟩
theorem Kp.trans (a : Kp s c h h') (b : Kp s c h' h'') : Kp s c h h'' := ⟨Nat.le_trans a.len b.len, fun j hj h1 h2 => by rw [b.at_ j (by have := a.len; omega) h1 h2, a.at_ j hj h1 h2]⟩
theorem Kp.pre (p : h <+: h') : Kp s c h h' := ⟨p.length_le, fun j hj _ _ => pre_same p hj⟩
theorem Kp.get (a : Kp s c h h') {j : Nat} {o : O} (e : h[j]? = some o) (h1 : j ≠ s) (h2 : j ≠ c) : h'[j]? = some o := by rw [a.at_ j (at_lt e) h1 h2]; exact e
theorem Kp.set (a : Kp s c h h') {j : Nat} {o : O} (hj : h.length ≤ j) : Kp s c h (h'.set j o) := ⟨by rw [List.length_set]; exact a.len, fun i hi h1 h2 => by rw [List.getElem?_set_ne (by omega)]; exact a.at_ i hi h1 h2⟩
theorem Src.lts {t : Int} {cells : List Int} (R : Src h s c t cells) : s < h.length ∧ c < h.length := ⟨at_lt R.src, at_lt R.cel⟩
theorem Src.pre {t : Int} {cells : List Int} (R : Src h s c t cells) (p : h <+: h') : Src h' s c t cells := ⟨R.ne, pre_at p R.src, pre_at p R.cel, R.pos, R.t0, R.lt⟩
theorem Src.set {t : Int} {cells : List Int} (R : Src h s c t cells) {j : Nat} {o : O} (h1 : j ≠ s) (h2 : j ≠ c) : Src (h.set j o) s c t cells := ⟨R.ne, set_at R.src h1, set_at R.cel h2, R.pos, R.t0, R.lt⟩
theorem cut_take {α : Type} {l : List α} {i : Nat} (hi : i ≤ l.length) : cutL l none (some (i : Int)) = l.take i := by
  unfold cutL
  rw [HT.sIx_nat l.length l.length i]
  show (l.drop 0).take (min i l.length - 0) = _
  rw [List.drop_zero, Nat.sub_zero, Nat.min_eq_left hi]
theorem cut_drop {α : Type} {l : List α} {i : Nat} (hi : i ≤ l.length) : cutL l (some (i : Int)) none = l.drop i := by
  unfold cutL
  rw [HT.sIx_nat l.length 0 i, Nat.min_eq_left hi]
  show (l.drop i).take (l.length - i) = _
  rw [List.take_of_length_le (by rw [List.length_drop]; omega)]
theorem slS_lst {h : Hh} {a : Nat} {xs : List D} {lo hi : Option Int} (e : h[a]? = some (.lst xs)) : slS h (.ref a) lo hi = some (.ref h.length, h ++ [.lst (cutL xs lo hi)]) := by
  unfold slS
  dsimp only
  rw [asL_at e]
theorem Kp.same (hl : h'.length = h.length) (e : ∀ j, j ≠ s → j ≠ c → h'[j]? = h[j]?) : Kp s c h h' := ⟨by omega, fun j _ h1 h2 => e j h1 h2⟩
def flp (p : Tx × Tx) : Tx × Tx := (p.2, p.1)
structure MxS (s c : Nat) (P : Uprs) (t : Int) (h h' : Hh) (l fd : Uprs) (la : Nat) (t' : Int) (cells' : List Int) : Prop where
  kp : Kp s c h h'
  src : Src h' s c t' cells'
  cl : h'[la]? = some (O.lst (l.map pD))
  ls : la ≠ s ∧ la ≠ c ∧ la ≠ h.length
  cf : h'[h.length]? = some (O.lst (fd.map pD))
  tt : t' + 2 * l.length = t + 2 * P.length
  ln : fd.length + l.length = P.length
  sub : ∀ p, p ∈ l → p ∈ P
  to : ∀ p, p ∈ fd → p ∈ P ∨ flp p ∈ P
  fro : ∀ p, p ∈ P → p ∈ l ∨ p ∈ fd ∨ flp p ∈ fd
theorem MxS.ext {P : Uprs} {t t' : Int} {l fd : Uprs} {la : Nat} {cells' : List Int} (M : MxS s c P t h h' l fd la t' cells') (p : h' <+: h'') : MxS s c P t h h'' l fd la t' cells' := ⟨M.kp.trans (Kp.pre p), M.src.pre p, pre_at p M.cl, M.ls, pre_at p M.cf, M.tt, M.ln, M.sub, M.to, M.fro⟩
section
variable {Z : Zi} {B : List Fd} (hG : HasG B)
include hG
theorem mixed_w {j a : Nat} {P : Uprs} {t : Int} {cells : List Int} {h : Hh} {Q : PQ} {Qx : PX} (R : Src h s c t cells) (ea : h[a]? = some (.lst (P.map pD))) (as : a ≠ s) (ac : a ≠ c) (ht : t + 2 * P.length < 1000000) (hl : P.length ≤ 1000)
    (k : ∀ P' h' cells', MixP P P' → Kp s c h h' → Src h' s c (t + 2 * P.length) cells' → h'[h.length]? = some (.lst (P'.map pD)) → Q (.ref h.length) h') : WPc Z B (j + 2) 29 [.ref s, .ref a] h Q Qx := by
  unfold WPc
  rw [hG.2.2.2.2.2.2.2.1]
  refine ⟨rfl, ?_⟩
  show wSs Z _ G6.b29.body _ [some (.ref s), some (.ref a), none, none, none, none, none] h
  unfold G6.b29
  obtain ⟨sl, cl⟩ := R.lts
  have al := at_lt ea
  refine wSs_c ?_
  simp only [wS, wE, wEs, wPs, kysOf, D.ky, wO, wT, wI, Op2.sem, Bi.sem, okS, okB, En.px, List.getElem?_cons_zero, List.getElem?_cons_succ, List.set_cons_zero, List.set_cons_succ, List.map_cons, List.map_nil, List.cons_append, List.nil_append, List.append_nil, Bool.false_eq_true, if_true, if_false, reduceIte]
  refine ⟨by rw [sizeLine_eq]; simp, ?_⟩
  have p0 := pre_snoc (List.prefix_refl h) (o := O.lst [])
  refine wSs_c ?_
  simp only [wS]
  refine ⟨fun m τ h' => ∃ l fd la t' cells' v4 v5 v6, MxS s c P t h h' l fd la t' cells' ∧ l.length = m ∧ τ = [some (.ref s), some (.ref a), some (.ref la), some (.ref h.length), v4, v5, v6],
    ⟨_, P, [], a, t, cells, none, none, none, ⟨Kp.pre p0, R.pre p0, pre_at p0 ea, ⟨as, ac, by omega⟩, new_at, rfl, by simp, fun p hp => hp, fun p hp => (by cases hp), fun p hp => .inl hp⟩, rfl, rfl⟩, ?_⟩
  rintro m τ h0 ⟨l, fd, la, t', cells', v4, v5, v6, M0, hm, rfl⟩
  simp only [wS, wE, wEs, wPs, kysOf, D.ky, wO, wT, wI, Op2.sem, Bi.sem, okS, okB, En.px, List.getElem?_cons_zero, List.getElem?_cons_succ, List.set_cons_zero, List.set_cons_succ, List.map_cons, List.map_nil, List.cons_append, List.nil_append, List.append_nil, Bool.false_eq_true, if_true, if_false, reduceIte]
  refine ⟨by rw [sizeLine_eq]; simp, ?_⟩
  have M := M0.ext (pre_snoc (List.prefix_refl h0) (o := O.lst []))
  have lal := at_lt M0.cl
  have ne : (h0 ++ [O.lst []])[h0.length]? = some (O.lst []) := new_at
  revert M ne
  generalize h0 ++ [O.lst []] = h1
  intro M ne
  have tt := M.tt
  have ln := M.ln
  rcases Nat.eq_zero_or_pos l.length with hl2 | lpos
  · have hl2 := List.length_eq_zero_iff.mp hl2
    subst hl2
    rw [neS_ll (asL_at M.cl) (asL_at ne) rfl rfl]
    simp only [truD_b, Bool.false_eq_true, if_false]
    refine wSs_c ?_
    simp only [wS, wE, wEs, wPs, kysOf, D.ky, wO, wT, wI, Op2.sem, Bi.sem, okS, okB, En.px, List.getElem?_cons_zero, List.getElem?_cons_succ, List.set_cons_zero, List.set_cons_succ, List.map_cons, List.map_nil, List.cons_append, List.nil_append, List.append_nil, Bool.false_eq_true, if_true, if_false, reduceIte]
    have tt2 : t' = t + 2 * P.length := by simpa using tt
    have src := M.src
    rw [tt2] at src
    refine k fd h1 cells' ⟨by simpa using ln, M.to, fun p hp => ?_⟩ M.kp src M.cf
    rcases M.fro p hp with q | q | q
    · cases q
    · exact .inl q
    · exact .inr q
  · rw [neS_lx (asL_at M.cl) (asL_at ne) (by omega) (by rw [List.length_map]; show l.length ≠ 0; omega)]
    simp only [truD_b, if_true]
    refine wSs_c ?_
    simp only [wS, wE, wEs, wPs, kysOf, D.ky, wO, wT, wI, Op2.sem, Bi.sem, okS, okB, En.px, List.getElem?_cons_zero, List.getElem?_cons_succ, List.set_cons_zero, List.set_cons_succ, List.map_cons, List.map_nil, List.cons_append, List.nil_append, List.append_nil, Bool.false_eq_true, if_true, if_false, reduceIte]
    rw [lenS_ref (asL_at M.cl)]
    dsimp only
    rw [List.length_map]
    refine draw_x hG.2.2.1 M.src (by omega) (by omega) (by omega) fun r h2 c2 r0 r1 R2 len2 oth2 => wG_n ?_
    simp only [List.set_cons_succ, List.set_cons_zero]
    have K2 : Kp s c h1 h2 := Kp.same len2 oth2
    have cl2 := K2.get M.cl M.ls.1 M.ls.2.1
    have cf2 := K2.get M.cf (by omega) (by omega)
    obtain ⟨i, rfl⟩ : ∃ i : Nat, r = (i : Int) := ⟨r.toNat, by omega⟩
    have hi : i < l.length := by omega
    obtain ⟨p, ep⟩ : ∃ p, l[i]? = some p := ⟨_, List.getElem?_eq_getElem hi⟩
    have pl := List.mem_of_getElem? ep
    refine wSs_c ?_
    simp only [wS, wE, wEs, wPs, kysOf, D.ky, wO, wT, wI, Op2.sem, Bi.sem, okS, okB, En.px, List.getElem?_cons_zero, List.getElem?_cons_succ, List.set_cons_zero, List.set_cons_succ, List.map_cons, List.map_nil, List.cons_append, List.nil_append, List.append_nil, Bool.false_eq_true, if_true, if_false, reduceIte]
    rw [ixS_ref (asL_at cl2) (atI_nat (d := pD p) (by rw [List.getElem?_map, ep]; rfl))]
    refine wG_2 ?_
    simp only [List.set_cons_succ, List.set_cons_zero]
    refine wSs_c ?_
    simp only [wS, wE, wEs, wPs, kysOf, D.ky, wO, wT, wI, Op2.sem, Bi.sem, okS, okB, En.px, List.getElem?_cons_zero, List.getElem?_cons_succ, List.set_cons_zero, List.set_cons_succ, List.map_cons, List.map_nil, List.cons_append, List.nil_append, List.append_nil, Bool.false_eq_true, if_true, if_false, reduceIte]
    rw [recT_lst cf2]
    refine ⟨rfl, by rw [sizeLine_eq]; simp, by rw [sizeLine_eq]; simp, by rw [sizeLine_eq]; simp, ?_⟩
    have p3 := pre_snoc (List.prefix_refl h2) (o := O.lst [D.tup [dT p.1, dT p.2], .tup [dT p.2, dT p.1]])
    have n3 : (h2 ++ [O.lst [D.tup [dT p.1, dT p.2], .tup [dT p.2, dT p.1]]])[h2.length]? = some (O.lst [D.tup [dT p.1, dT p.2], .tup [dT p.2, dT p.1]]) := new_at
    refine draw_x hG.2.2.1 (R2.pre p3) (by omega) (by decide) (by decide) fun r2 h4 c4 q0 q1 R4 len4 oth4 => ?_
    have K4 : Kp s c h2 h4 := (Kp.pre p3).trans (Kp.same len4 oth4)
    obtain ⟨sl2, cl2'⟩ := R2.lts
    have cl4 := K4.get cl2 M.ls.1 M.ls.2.1
    have cf4 := K4.get cf2 (by omega) (by omega)
    have n4 : h4[h2.length]? = some (O.lst [D.tup [dT p.1, dT p.2], .tup [dT p.2, dT p.1]]) := by rw [oth4 _ (by omega) (by omega)]; exact n3
    obtain ⟨p', ep', hp'⟩ : ∃ p' : Tx × Tx, ixS h4 (.ref h2.length) (.int r2) = some (pD p', h4) ∧ (p' = p ∨ p' = flp p) := by
      have : r2 = 0 ∨ r2 = 1 := by omega
      rcases this with rfl | rfl
      · exact ⟨p, ixS_ref (asL_at n4) rfl, .inl rfl⟩
      · exact ⟨flp p, ixS_ref (asL_at n4) rfl, .inr rfl⟩
    rw [ep']
    dsimp only
    rw [push_at cf4 (by rw [List.length_map]; omega)]
    have h2l : h.length ≤ h4.length := Nat.le_trans M.kp.len (Nat.le_trans K2.len K4.len)
    have K5 : Kp s c h (h4.set h.length (.lst (fd.map pD ++ [pD p']))) := ((M.kp.trans K2).trans K4).set (Nat.le_refl _)
    have R5 := R4.set (j := h.length) (o := .lst (fd.map pD ++ [pD p'])) (by omega) (by omega)
    have cl5 := set_at (o := .lst (fd.map pD ++ [pD p'])) cl4 M.ls.2.2.symm
    have cf5 := set_self (o := .lst (fd.map pD ++ [pD p'])) cf4
    revert K5 R5 cl5 cf5
    generalize h4.set h.length (.lst (fd.map pD ++ [pD p'])) = h5
    intro K5 R5 cl5 cf5
    refine wSs_c ?_
    simp only [wS, wE, wEs, wPs, kysOf, D.ky, wO, wT, wI, Op2.sem, Bi.sem, okS, okB, En.px, List.getElem?_cons_zero, List.getElem?_cons_succ, List.set_cons_zero, List.set_cons_succ, List.map_cons, List.map_nil, List.cons_append, List.nil_append, List.append_nil, Bool.false_eq_true, if_true, if_false, reduceIte]
    rw [slS_lst cl5, cut_take (by rw [List.length_map]; omega)]
    dsimp only
    rw [show addS (h5 ++ [O.lst ((l.map pD).take i)]) (.int (i : Int)) (.int 1) = some (.int ((i + 1 : Nat) : Int), _) from rfl]
    dsimp only
    have p6 := pre_snoc (List.prefix_refl h5) (o := O.lst ((l.map pD).take i))
    rw [slS_lst (pre_at p6 cl5), cut_drop (by rw [List.length_map]; omega)]
    dsimp only
    have p7 := pre_snoc p6 (o := O.lst ((l.map pD).drop (i + 1)))
    rw [addS_ll (pre_at (pre_snoc (List.prefix_refl _)) new_at) new_at (by simp only [List.length_take, List.length_drop, List.length_map]; omega)]
    refine wG_n ?_
    simp only [List.set_cons_succ, List.set_cons_zero]
    have p8 := pre_snoc p7 (o := O.lst ((l.map pD).take i ++ (l.map pD).drop (i + 1)))
    have em : (l.map pD).take i ++ (l.map pD).drop (i + 1) = (l.take i ++ l.drop (i + 1)).map pD := by rw [List.map_append, List.map_take, List.map_drop]
    have lsplit : l = l.take i ++ p :: l.drop (i + 1) := by rw [← drop_cons ep, List.take_append_drop]
    have ll2 : (l.take i ++ l.drop (i + 1)).length + 1 = l.length := by rw [List.length_append, List.length_take, List.length_drop]; omega
    have hK5 := K5.len
    refine wSs_n ⟨(l.take i ++ l.drop (i + 1)).length, by omega, l.take i ++ l.drop (i + 1), fd ++ [p'], _, t' + 1 + 1, c4, _, _, _, ⟨K5.trans (Kp.pre p8), R5.pre p8, ?_, ⟨?_, ?_, ?_⟩, ?_, by omega, ?_, fun x hx => ?_, fun x hx => ?_, fun x hx => ?_⟩, rfl, rfl⟩
    · rw [← em]; exact new_at
    · simp only [List.length_append, List.length_cons, List.length_nil]; omega
    · simp only [List.length_append, List.length_cons, List.length_nil]; omega
    · simp only [List.length_append, List.length_cons, List.length_nil]; omega
    · rw [List.map_append]
      exact pre_at p8 cf5
    · rw [List.length_append, List.length_cons, List.length_nil]; omega
    · refine M.sub x ?_
      rw [lsplit]
      rcases List.mem_append.mp hx with q | q
      · exact List.mem_append_left _ q
      · exact List.mem_append_right _ (List.mem_cons_of_mem _ q)
    · rcases List.mem_append.mp hx with q | q
      · exact M.to x q
      · rw [List.mem_singleton.mp q]
        rcases hp' with e | e
        · rw [e]; exact .inl (M.sub p pl)
        · rw [e]; exact .inr (M.sub p pl)
    · rcases M.fro x hx with q | q | q
      · rw [lsplit] at q
        rcases List.mem_append.mp q with q | q
        · exact .inl (List.mem_append_left _ q)
        · rcases List.mem_cons.mp q with q | q
          · right
            rw [q]
            rcases hp' with e | e
            · rw [e]; exact .inl (by simp)
            · rw [e]; exact .inr (by simp)
          · exact .inl (List.mem_append_right _ q)
      · exact .inr (.inl (List.mem_append_left _ q))
      · exact .inr (.inr (List.mem_append_left _ q))
end
end Mi

set_option Elab.async false
set_option linter.all false
set_option maxRecDepth 100000
set_option maxHeartbeats 4000000
/-! great terms: chains -/
namespace Mi
open PySem PySem.Spec PyProof.Rows L2 Un
def Lt (k : Nat) : Wd := [65 + k]
def Xv (k : Nat) : Tx := .v (Lt k)
def chP (m w : Nat) : Uprs := (List.range m).map fun k => (Xv k, .a [102] (List.replicate w (Xv (k + 1))))
def dbl : Nat → Nat → Tx → Tx
  | 0, _, t => t
  | k + 1, w, t => .a [102] (List.replicate w (dbl k w t))
def sz : Nat → Nat → Nat
  | 0, _ => 1
  | k + 1, w => 1 + w * sz k w
theorem dbl_size {w : Nat} {t : Tx} (ht : t.size = 1) : ∀ k, (dbl k w t).size = sz k w
  | 0 => ht
  | k + 1 => by
    unfold dbl sz
    rw [size_a, List.map_replicate, List.sum_replicate_nat, dbl_size ht k]
theorem dbl_sub {w : Nat} {t : Tx} {r : Wd → Tx} : ∀ k, (dbl k w t).sub r = dbl k w (t.sub r)
  | 0 => rfl
  | k + 1 => by
    unfold dbl
    rw [sub_a, List.map_replicate, dbl_sub k]
theorem dbl_vars {w : Nat} {t : Tx} {y : Wd} : ∀ k, y ∈ (dbl k w t).vars → y ∈ t.vars
  | 0, h => h
  | k + 1, h => by
    unfold dbl at h
    rw [vars_a] at h
    obtain ⟨u, hu, hy⟩ := List.mem_flatMap.mp h
    rw [List.eq_of_mem_replicate hu] at hy
    exact dbl_vars k hy
theorem sz_mono {w : Nat} (hw : 1 ≤ w) {k m : Nat} (h : k ≤ m) : sz k w ≤ sz m w := by
  induction m with
  | zero => rw [show k = 0 from by omega]; exact Nat.le_refl _
  | succ m ih =>
    by_cases c : k = m + 1
    · rw [c]; exact Nat.le_refl _
    · have := ih (by omega)
      have : sz (m + 1) w = 1 + w * sz m w := rfl
      have : sz m w ≤ w * sz m w := Nat.le_mul_of_pos_left _ hw
      omega
theorem Lt_inj {a b : Nat} (h : Lt a = Lt b) : a = b := by injection h with h; omega
/-- the solution of a chain -/
def chS (m w : Nat) : Wd → Tx
  | [c] => if 65 ≤ c ∧ c ≤ 65 + m then dbl (m - (c - 65)) w (Xv m) else .v [c]
  | x => .v x
theorem chS_at {m w k : Nat} (h : k ≤ m) : chS m w (Lt k) = dbl (m - k) w (Xv m) := by
  show (if 65 ≤ 65 + k ∧ 65 + k ≤ 65 + m then dbl (m - (65 + k - 65)) w (Xv m) else .v [65 + k]) = _
  rw [if_pos (by omega), Nat.add_sub_cancel_left]
theorem chP_vs {m w : Nat} (hm : 1 ≤ m) (hw : 1 ≤ w) {x : Wd} : x ∈ Vs (chP m w) ↔ ∃ k, k ≤ m ∧ x = Lt k := by
  unfold Vs chP
  rw [List.mem_flatMap]
  constructor
  · rintro ⟨p, hp, hx⟩
    obtain ⟨k, hk, rfl⟩ := List.mem_map.mp hp
    have hk := List.mem_range.mp hk
    rcases List.mem_append.mp hx with q | q
    · dsimp only [Xv] at q
      rw [vars_v, List.mem_singleton] at q
      exact ⟨k, by omega, q⟩
    · dsimp only at q
      rw [vars_a] at q
      obtain ⟨u, hu, hy⟩ := List.mem_flatMap.mp q
      rw [List.eq_of_mem_replicate hu] at hy
      unfold Xv at hy
      rw [vars_v, List.mem_singleton] at hy
      exact ⟨k + 1, by omega, hy⟩
  · rintro ⟨k, hk, rfl⟩
    by_cases c : k = m
    · refine ⟨_, List.mem_map.mpr ⟨m - 1, List.mem_range.mpr (by omega), rfl⟩, List.mem_append_right _ ?_⟩
      dsimp only
      rw [vars_a, show m - 1 + 1 = k from by omega]
      exact List.mem_flatMap.mpr ⟨Xv k, List.mem_replicate.mpr ⟨by omega, rfl⟩, by unfold Xv; rw [vars_v]; exact List.mem_singleton_self _⟩
    · exact ⟨_, List.mem_map.mpr ⟨k, List.mem_range.mpr (by omega), rfl⟩, List.mem_append_left _ (by dsimp only [Xv]; rw [vars_v]; exact List.mem_singleton_self _)⟩
theorem chP_unif {m w : Nat} {r : Wd → Tx} (h : Unif r (chP m w)) : ∀ k, k < m → r (Lt k) = .a [102] (List.replicate w (r (Lt (k + 1)))) := fun k hk => by
  have := h _ (List.mem_map.mpr ⟨k, List.mem_range.mpr hk, rfl⟩)
  dsimp only [Xv] at this
  rw [sub_v, sub_a, List.map_replicate, sub_v] at this
  exact this
theorem chP_any {m w : Nat} {r : Wd → Tx} (h : Unif r (chP m w)) : ∀ j k, k + j = m → r (Lt k) = dbl j w (r (Lt m))
  | 0, k, e => by rw [show k = m from by omega]; rfl
  | j + 1, k, e => by
    rw [chP_unif h k (by omega), chP_any h j (k + 1) (by omega)]; rfl
theorem chP_best {m w : Nat} (hm : 1 ≤ m) (hw : 1 ≤ w) : Best (chS m w) (chP m w) where
  sol := fun p hp => by
    obtain ⟨k, hk, rfl⟩ := List.mem_map.mp hp
    have hk := List.mem_range.mp hk
    dsimp only [Xv]
    rw [sub_v, sub_a, List.map_replicate, sub_v, chS_at (by omega), chS_at (by omega), show m - k = (m - (k + 1)) + 1 from by omega]; rfl
  most := fun r hr x hx => by
    obtain ⟨k, hk, rfl⟩ := (chP_vs hm hw).1 hx
    rw [chS_at hk, dbl_sub, chP_any hr (m - k) k (by omega)]
    unfold Xv
    rw [sub_v]
  idem := fun x hx => by
    obtain ⟨k, hk, rfl⟩ := (chP_vs hm hw).1 hx
    rw [chS_at hk, dbl_sub]
    unfold Xv
    rw [sub_v, chS_at (Nat.le_refl _), Nat.sub_self]; rfl
  inn := fun x hx y hy => by
    obtain ⟨k, hk, rfl⟩ := (chP_vs hm hw).1 hx
    rw [chS_at hk] at hy
    have := dbl_vars _ hy
    unfold Xv at this
    rw [vars_v, List.mem_singleton] at this
    exact (chP_vs hm hw).2 ⟨m, Nat.le_refl _, this⟩
  least := fun x hx y hy z ex ey => by
    obtain ⟨k, hk, rfl⟩ := (chP_vs hm hw).1 hx
    obtain ⟨l, hl, rfl⟩ := (chP_vs hm hw).1 hy
    rw [chS_at hk] at ex
    rw [chS_at hl] at ey
    have z0 : ∀ j, dbl j w (Xv m) = .v z → j = 0 ∧ z = Lt m := fun j e => by
      cases j with
      | zero => exact ⟨rfl, by unfold dbl Xv at e; injection e with e; exact e.symm⟩
      | succ j => unfold dbl at e; cases e
    obtain ⟨a, rfl⟩ := z0 _ ex
    obtain ⟨b, _⟩ := z0 _ ey
    refine ⟨(chP_vs hm hw).2 ⟨m, Nat.le_refl _, rfl⟩, ?_, ?_⟩
    · rw [chS_at (Nat.le_refl _), Nat.sub_self]; rfl
    · rw [show l = m from by omega]; exact List.le_refl _
theorem chP_ok : ∀ m, m ≤ 10 → ∀ w, w ≤ 4 → okP (chP m w) = true ∧ ((chP m w).all fun p => smT p.1 && smT p.2) = true := by
  intro m hm w hw
  have : ∀ m, m < 11 → ∀ w, w < 5 → (okP (chP m w) && (chP m w).all fun p => smT p.1 && smT p.2) = true := by decide +kernel
  have := this m (by omega) w (by omega)
  rw [Bool.and_eq_true] at this
  exact this
/-- no more than these words -/
theorem few {P : Uprs} {l : List Wd} (h : ∀ x, x ∈ Vs P → x ∈ l) (hl : l.length < 64) : ∀ xs : List Wd, xs.Nodup → (∀ x, x ∈ xs ↔ x ∈ Vs P) → xs.length < 64 := fun xs nd hm => by
  have := nodup_len nd fun x hx => h x ((hm x).1 hx)
  omega
theorem eqL_refl {f : D → D → Option Bool} : ∀ {xs : List D}, (∀ x ∈ xs, f x x = some true) → eqL f xs xs = some true
  | [], _ => rfl
  | x :: xs, h => by
    unfold eqL
    rw [h x List.mem_cons_self, eqL_refl fun y hy => h y (List.mem_cons_of_mem _ hy)]; rfl
theorem eqV_dT {h : Hh} : ∀ (t : Tx) (n : Nat), 2 * t.size ≤ n → eqV h n (dT t) (dT t) = some true := by
  apply Tx.ind (P := fun t => ∀ n, 2 * t.size ≤ n → eqV h n (dT t) (dT t) = some true)
  · intro x n hn
    rw [size_v] at hn
    obtain ⟨n, rfl⟩ : ∃ k, n = k + 1 := ⟨n - 1, by omega⟩
    rw [dT_v]
    show some (x == x) = some true
    rw [beq_self_eq_true]
  · intro n ts ih k hk
    have hk1 := hk
    rw [size_a] at hk1
    obtain ⟨k, rfl⟩ : ∃ i, k = i + 2 := ⟨k - 2, by omega⟩
    rw [dT_a]
    unfold eqV
    dsimp only
    have e1 : eqV h (k + 1) (.str n) (.str n) = some true := by
      show some (n == n) = some true
      rw [beq_self_eq_true]
    have e2 : eqV h (k + 1) (.tup (ts.map dT)) (.tup (ts.map dT)) = some true := by
      unfold eqV
      dsimp only
      rw [eqL_refl fun x hx => by
        obtain ⟨t, ht, rfl⟩ := List.mem_map.mp hx
        refine ih t ht k ?_
        have := size_in (n := n) ht
        omega]
      simp
    simp only [eqL, e1, e2]
    rfl
theorem neS_dT {h : Hh} {t : Tx} (ht : t.size ≤ 95) : neS h (dT t) (dT t) = some (.bl false, h) := by
  have ek : asK h (dT t) = none := by
    cases t with
    | v x => rw [dT_v]; rfl
    | a n ts => rw [dT_a]; rfl
  unfold neS eqTop
  rw [ek]
  dsimp only
  rw [eqV_dT t 190 (by omega)]; rfl
end Mi

set_option Elab.async false
set_option linter.all false
set_option maxRecDepth 100000
set_option maxHeartbeats 4000000
/-! great terms: chains, as the law makes them -/
namespace Mi
open PySem PySem.Spec PyProof.Rows L2 Un
theorem letter_at : ∀ k, k < 26 → vrSg[k]? = some (65 + k) := by decide
theorem ixS_let {h : Hh} {k : Nat} (hk : k < 26) : ixS h (.str vrSg) (nD k) = some (.str (Lt k), h) := by
  show ixS h (.str vrSg) (.int (k : Int)) = _
  unfold ixS
  dsimp only
  rw [if_pos (by rw [sizeLine_eq]; decide), atI_nat (letter_at k hk)]; rfl
theorem mulS_tup {h : Hh} {d : D} {w : Nat} (hw : w ≤ 1000) : mulS h (.tup [d]) (nD w) = some (.tup (List.replicate w d), h) := by
  show mulS h (.tup [d]) (.int (w : Int)) = _
  unfold mulS
  dsimp only
  rw [if_pos ⟨by omega, by omega, by simp⟩, Int.toNat_natCast]
  have : (List.replicate w [d]).flatten = List.replicate w d := by
    induction w with
    | zero => rfl
    | succ w ih => rw [List.replicate_succ, List.flatten_cons, ih (by omega), List.replicate_succ]; rfl
  rw [this]
theorem dT_rep {n : Wd} {w : Nat} {t : Tx} : dT (.a n (List.replicate w t)) = .tup [.str n, .tup (List.replicate w (dT t))] := by rw [dT_a, List.map_replicate]
theorem sz_lt : ∀ k, k ≤ 10 → ∀ w, w ≤ 4 → (sz k w : Int).natAbs < 2 ^ 100 ∧ (w : Int).natAbs < 2 ^ 100 := by
  intro k hk w hw
  have : ∀ k, k < 11 → ∀ w, w < 5 → sz k w < 2 ^ 100 ∧ w < 2 ^ 100 := by decide +kernel
  have := this k (by omega) w (by omega)
  omega
section
variable {Z : Zi} {B : List Fd} (hG : HasG B) (z : Z06 Z)
include hG
theorem letter_w {j k : Nat} {h : Hh} {Q : PQ} {Qx : PX} (hk : k < 26) (q : Q (.str (Lt k)) h) : WPc Z B (j + 1) 26 [nD k] h Q Qx := by
  unfold WPc
  rw [hG.2.2.2.2.1]
  refine ⟨rfl, ?_⟩
  show wSs Z _ G6.b26.body _ [some (nD k)] h
  unfold G6.b26
  refine wSs_c ?_
  simp only [wS, wE, wEs, wPs, kysOf, D.ky, wO, wT, wI, Op2.sem, Bi.sem, okS, okB, En.px, List.getElem?_cons_zero, List.getElem?_cons_succ, List.set_cons_zero, List.set_cons_succ, List.map_cons, List.map_nil, List.cons_append, List.nil_append, List.append_nil, Bool.false_eq_true, if_true, if_false, reduceIte]
  rw [show ([65, 66, 67, 68, 69, 70, 71, 72, 73, 74, 75, 76, 77, 78, 79, 80, 81, 82, 83, 84, 85, 86, 87, 88, 89, 90] : List Nat) = vrSg from rfl, ixS_let hk]
  exact q
theorem chain_w {j m w : Nat} {h : Hh} {Q : PQ} {Qx : PX} (hm : m ≤ 20) (hw : w ≤ 4) (q : ∀ h', h <+: h' → h'[h.length]? = some (.lst ((chP m w).map pD)) → Q (.ref h.length) h') : WPc Z B (j + 2) 27 [nD m, nD w] h Q Qx := by
  unfold WPc
  rw [hG.2.2.2.2.2.1]
  refine ⟨rfl, ?_⟩
  show wSs Z _ G6.b27.body _ [some (nD m), some (nD w), none, none] h
  unfold G6.b27
  refine wSs_c ?_
  simp only [wS, wE, wEs, wPs, kysOf, D.ky, wO, wT, wI, Op2.sem, Bi.sem, okS, okB, En.px, List.getElem?_cons_zero, List.getElem?_cons_succ, List.set_cons_zero, List.set_cons_succ, List.map_cons, List.map_nil, List.cons_append, List.nil_append, List.append_nil, Bool.false_eq_true, if_true, if_false, reduceIte]
  refine ⟨by rw [sizeLine_eq]; simp, wG_n ?_⟩
  simp only [List.set_cons_succ, List.set_cons_zero]
  refine wSs_c ?_
  simp only [wS, lk_r1]
  simp only [wS, wE, wEs, wPs, kysOf, D.ky, wO, wT, wI, Op2.sem, Bi.sem, okS, okB, En.px, List.getElem?_cons_zero, List.getElem?_cons_succ, List.set_cons_zero, List.set_cons_succ, List.map_cons, List.map_nil, List.cons_append, List.nil_append, List.append_nil, Bool.false_eq_true, if_true, if_false, reduceIte]
  dsimp only [nD]
  refine ⟨by omega, ?_⟩
  rw [Int.toNat_natCast, show rangeD 0 m = (List.range m).map nD from fnD_range]
  refine wItems_inv (fun i τ h' => ∃ v3, h <+: h' ∧ h'[h.length]? = some (O.lst ((chP i w).map pD)) ∧ τ = [some (nD m), some (nD w), some (.ref h.length), v3]) (fun _ _ _ _ => trivial) ?_ ?_ ⟨_, pre_snoc (List.prefix_refl _), new_at, rfl⟩
  · rintro i d τ h' kk ed ⟨v3, p, e, rfl⟩ hkk
    rw [List.getElem?_map] at ed
    obtain ⟨i', ei, rfl⟩ := Option.map_eq_some_iff.mp ed
    have hi : i < m := by simpa using (List.getElem?_eq_some_iff.mp ei).1
    rw [List.getElem?_range hi] at ei
    cases ei
    refine wG_n ?_
    simp only [List.set_cons_succ, List.set_cons_zero]
    refine wSs_c ?_
    simp only [wS, wE, wEs, wPs, kysOf, D.ky, wO, wT, wI, Op2.sem, Bi.sem, okS, okB, En.px, List.getElem?_cons_zero, List.getElem?_cons_succ, List.set_cons_zero, List.set_cons_succ, List.map_cons, List.map_nil, List.cons_append, List.nil_append, List.append_nil, Bool.false_eq_true, if_true, if_false, reduceIte]
    rw [recT_lst e]
    refine ⟨rfl, ?_⟩
    refine letter_w hG (by omega) ?_
    rw [show addS h' (nD i) (.int 1) = some (nD (i + 1), h') from addS_n (b := 1)]
    refine letter_w hG (by omega) ?_
    refine ⟨by rw [sizeLine_eq]; simp, ?_⟩
    rw [mulS_tup (by omega)]
    refine ⟨by rw [sizeLine_eq]; simp, by rw [sizeLine_eq]; simp, ?_⟩
    rw [push_at e (by rw [List.length_map]; simp [chP]; omega)]
    refine wSs_n (hkk _ _ ⟨_, pre_set p (Nat.le_refl _), ?_, rfl⟩)
    have : chP (i + 1) w = chP i w ++ [(Xv i, .a [102] (List.replicate w (Xv (i + 1))))] := by unfold chP; rw [List.range_succ, List.map_append]; rfl
    rw [this, List.map_append, List.map_cons, List.map_nil]
    unfold pD
    rw [dT_rep, show dT (Xv i) = .str (Lt i) from dT_v, show dT (Xv (i + 1)) = .str (Lt (i + 1)) from dT_v]
    exact set_self e
  · rintro τ h' ⟨v3, p, e, rfl⟩
    rw [List.length_map, List.length_range] at e
    refine wSs_c ?_
    simp only [wS, wE, wEs, wPs, kysOf, D.ky, wO, wT, wI, Op2.sem, Bi.sem, okS, okB, En.px, List.getElem?_cons_zero, List.getElem?_cons_succ, List.set_cons_zero, List.set_cons_succ, List.map_cons, List.map_nil, List.cons_append, List.nil_append, List.append_nil, Bool.false_eq_true, if_true, if_false, reduceIte]
    exact q h' p e
theorem doubled_w {j m w : Nat} {t : Tx} {h : Hh} {Q : PQ} {Qx : PX} (hm : m ≤ 20) (hw : w ≤ 4) (q : Q (dT (dbl m w t)) h) : WPc Z B (j + 1) 28 [nD m, nD w, dT t] h Q Qx := by
  unfold WPc
  rw [hG.2.2.2.2.2.2.1]
  refine ⟨rfl, ?_⟩
  show wSs Z _ G6.b28.body _ [some (nD m), some (nD w), some (dT t), none, none] h
  unfold G6.b28
  refine wSs_c ?_
  simp only [wS, wE, wEs, wPs, kysOf, D.ky, wO, wT, wI, Op2.sem, Bi.sem, okS, okB, En.px, List.getElem?_cons_zero, List.getElem?_cons_succ, List.set_cons_zero, List.set_cons_succ, List.map_cons, List.map_nil, List.cons_append, List.nil_append, List.append_nil, Bool.false_eq_true, if_true, if_false, reduceIte]
  refine wG_n ?_
  simp only [List.set_cons_succ, List.set_cons_zero]
  refine wSs_c ?_
  simp only [wS, lk_r1]
  simp only [wS, wE, wEs, wPs, kysOf, D.ky, wO, wT, wI, Op2.sem, Bi.sem, okS, okB, En.px, List.getElem?_cons_zero, List.getElem?_cons_succ, List.set_cons_zero, List.set_cons_succ, List.map_cons, List.map_nil, List.cons_append, List.nil_append, List.append_nil, Bool.false_eq_true, if_true, if_false, reduceIte]
  dsimp only [nD]
  refine ⟨by omega, ?_⟩
  rw [Int.toNat_natCast, show rangeD 0 m = (List.range m).map nD from fnD_range]
  refine wItems_inv (fun i τ h' => ∃ v4, h' = h ∧ τ = [some (nD m), some (nD w), some (dT t), some (dT (dbl i w t)), v4]) (fun _ _ _ _ => trivial) ?_ ?_ ⟨_, rfl, rfl⟩
  · rintro i d τ h' kk ed ⟨v4, rfl, rfl⟩ hkk
    refine wG_n ?_
    simp only [List.set_cons_succ, List.set_cons_zero]
    refine wSs_c ?_
    simp only [wS, wE, wEs, wPs, kysOf, D.ky, wO, wT, wI, Op2.sem, Bi.sem, okS, okB, En.px, List.getElem?_cons_zero, List.getElem?_cons_succ, List.set_cons_zero, List.set_cons_succ, List.map_cons, List.map_nil, List.cons_append, List.nil_append, List.append_nil, Bool.false_eq_true, if_true, if_false, reduceIte]
    refine ⟨by rw [sizeLine_eq]; simp, ?_⟩
    rw [mulS_tup (by omega)]
    refine ⟨by rw [sizeLine_eq]; simp, wG_n (wSs_n (hkk _ _ ⟨some d, rfl, ?_⟩))⟩
    simp only [List.set_cons_succ, List.set_cons_zero]
    rw [show dT (dbl (i + 1) w t) = .tup [.str [102], .tup (List.replicate w (dT (dbl i w t)))] from dT_rep]
  · rintro τ h' ⟨v4, rfl, rfl⟩
    rw [List.length_map, List.length_range]
    refine wSs_c ?_
    simp only [wS, wE, wEs, wPs, kysOf, D.ky, wO, wT, wI, Op2.sem, Bi.sem, okS, okB, En.px, List.getElem?_cons_zero, List.getElem?_cons_succ, List.set_cons_zero, List.set_cons_succ, List.map_cons, List.map_nil, List.cons_append, List.nil_append, List.append_nil, Bool.false_eq_true, if_true, if_false, reduceIte]
    exact q
theorem sizes6_w {j m w : Nat} {h : Hh} {Q : PQ} {Qx : PX} (hm : m ≤ 10) (hw : w ≤ 4) (q : ∀ h', h <+: h' → h'[h.length]? = some (.lst (fnD (m + 1) fun k => nD (sz k w))) → Q (.ref h.length) h') : WPc Z B (j + 1) 30 [nD m, nD w] h Q Qx := by
  unfold WPc
  rw [hG.2.2.2.2.2.2.2.2.1]
  refine ⟨rfl, ?_⟩
  show wSs Z _ G6.b30.body _ [some (nD m), some (nD w), none, none] h
  unfold G6.b30
  refine wSs_c ?_
  simp only [wS, wE, wEs, wPs, kysOf, D.ky, wO, wT, wI, Op2.sem, Bi.sem, okS, okB, En.px, List.getElem?_cons_zero, List.getElem?_cons_succ, List.set_cons_zero, List.set_cons_succ, List.map_cons, List.map_nil, List.cons_append, List.nil_append, List.append_nil, Bool.false_eq_true, if_true, if_false, reduceIte]
  refine ⟨by rw [sizeLine_eq]; simp, wG_n ?_⟩
  simp only [List.set_cons_succ, List.set_cons_zero]
  refine wSs_c ?_
  simp only [wS, lk_r1]
  simp only [wS, wE, wEs, wPs, kysOf, D.ky, wO, wT, wI, Op2.sem, Bi.sem, okS, okB, En.px, List.getElem?_cons_zero, List.getElem?_cons_succ, List.set_cons_zero, List.set_cons_succ, List.map_cons, List.map_nil, List.cons_append, List.nil_append, List.append_nil, Bool.false_eq_true, if_true, if_false, reduceIte]
  dsimp only [nD]
  refine ⟨by omega, ?_⟩
  rw [Int.toNat_natCast, show rangeD 0 m = (List.range m).map nD from fnD_range]
  refine wItems_inv (fun i τ h' => ∃ v3, h <+: h' ∧ h'[h.length]? = some (O.lst (fnD (i + 1) fun k => nD (sz k w))) ∧ τ = [some (nD m), some (nD w), some (.ref h.length), v3]) (fun _ _ _ _ => trivial) ?_ ?_ ⟨_, pre_snoc (List.prefix_refl _), new_at, rfl⟩
  · rintro i d τ h' kk ed ⟨v3, p, e, rfl⟩ hkk
    have hi : i < m := by
      have := (List.getElem?_eq_some_iff.mp ed).1
      simpa using this
    refine wG_n ?_
    simp only [List.set_cons_succ, List.set_cons_zero]
    refine wSs_c ?_
    simp only [wS, wE, wEs, wPs, kysOf, D.ky, wO, wT, wI, Op2.sem, Bi.sem, okS, okB, En.px, List.getElem?_cons_zero, List.getElem?_cons_succ, List.set_cons_zero, List.set_cons_succ, List.map_cons, List.map_nil, List.cons_append, List.nil_append, List.append_nil, Bool.false_eq_true, if_true, if_false, reduceIte]
    rw [recT_lst e]
    refine ⟨rfl, ?_⟩
    have el : ixS h' (.ref h.length) (.int (-1)) = some (nD (sz i w), h') := ixS_ref (asL_at e) (by
      unfold atI ixN
      rw [if_neg (by decide), fnD_len, if_pos (by omega), show ((-1 : Int) + ((i + 1 : Nat) : Int)).toNat = i from by omega]
      exact fnD_get (f := fun k => nD (sz k w)) (by omega))
    rw [el]
    dsimp only
    obtain ⟨b1, b2⟩ := sz_lt i (by omega) w hw
    rw [show mulS h' (nD w) (nD (sz i w)) = some (nD (w * sz i w), h') from by
      show mulS h' (.int (w : Int)) (.int (sz i w : Int)) = _
      rw [mulS_p b2 b1]
      show some (D.int ((w : Int) * (sz i w : Int)), h') = some (D.int ((w * sz i w : Nat) : Int), h')
      rw [Int.natCast_mul]]
    dsimp only
    rw [show addS h' (.int 1) (nD (w * sz i w)) = some (nD (1 + w * sz i w), h') from addS_n (a := 1)]
    dsimp only
    rw [push_at e (by rw [fnD_len]; omega)]
    refine wSs_n (hkk _ _ ⟨_, pre_set p (Nat.le_refl _), ?_, rfl⟩)
    rw [set_self e, fnD_snoc]
    congr 2
    refine fnD_congr fun k _ => ?_
    split
    · next c => rw [c]; rfl
    · rfl
  · rintro τ h' ⟨v3, p, e, rfl⟩
    rw [List.length_map, List.length_range] at e
    refine wSs_c ?_
    simp only [wS, wE, wEs, wPs, kysOf, D.ky, wO, wT, wI, Op2.sem, Bi.sem, okS, okB, En.px, List.getElem?_cons_zero, List.getElem?_cons_succ, List.set_cons_zero, List.set_cons_succ, List.map_cons, List.map_nil, List.cons_append, List.nil_append, List.append_nil, Bool.false_eq_true, if_true, if_false, reduceIte]
    exact q h' p e
include z
theorem fits_w {j m w s c : Nat} {t : Int} {cells : List Int} {h : Hh} {Q : PQ} {Qx : PX} (hm : 1 ≤ m) (hm2 : m ≤ 10) (hw : 1 ≤ w) (hw2 : w ≤ 4) (R : Src h s c t cells) (ht : t + 2 * m < 1000000)
    (q : ∀ h' cells', Kp s c h h' → Src h' s c (t + 2 * m) cells' → Q (.bl true) h') : WPc Z B (j + 16) 31 [.ref s, nD m, nD w] h Q Qx := by
  unfold WPc
  rw [hG.2.2.2.2.2.2.2.2.2.1]
  refine ⟨rfl, ?_⟩
  show wSs Z _ G6.b31.body _ [some (.ref s), some (nD m), some (nD w), none, none, none, none] h
  unfold G6.b31
  obtain ⟨sl, cl⟩ := R.lts
  obtain ⟨ok, sm⟩ := chP_ok m hm2 w hw2
  have cle : (chP m w).length = m := by simp [chP]
  have sm2 : ∀ p ∈ chP m w, smT p.1 = true ∧ smT p.2 = true := fun p hp => by
    have := List.all_eq_true.mp sm p hp
    rwa [Bool.and_eq_true] at this
  have hvs : ∀ x, x ∈ Vs (chP m w) → x ∈ (List.range (m + 1)).map Lt := fun x hx => by
    obtain ⟨k, hk, rfl⟩ := (chP_vs hm hw).1 hx
    exact List.mem_map_of_mem (List.mem_range.mpr (by omega))
  have best := chP_best (m := m) (w := w) hm hw
  refine wSs_c ?_
  simp only [wS, wE, wEs, wPs, kysOf, D.ky, wO, wT, wI, Op2.sem, Bi.sem, okS, okB, En.px, List.getElem?_cons_zero, List.getElem?_cons_succ, List.set_cons_zero, List.set_cons_succ, List.map_cons, List.map_nil, List.cons_append, List.nil_append, List.append_nil, Bool.false_eq_true, if_true, if_false, reduceIte]
  refine chain_w hG (by omega) hw2 fun h1 p1 e1 => ?_
  refine mixed_w hG (R.pre p1) e1 (by omega) (by omega) (by rw [cle]; omega) (by rw [cle]; omega) fun P' h2 c2 M K2 R2 e2 => wG_n ?_
  rw [cle] at R2
  simp only [List.set_cons_succ, List.set_cons_zero]
  refine wSs_c ?_
  simp only [wS, wE, wEs, wPs, kysOf, D.ky, wO, wT, wI, Op2.sem, Bi.sem, okS, okB, En.px, List.getElem?_cons_zero, List.getElem?_cons_succ, List.set_cons_zero, List.set_cons_succ, List.map_cons, List.map_nil, List.cons_append, List.nil_append, List.append_nil, Bool.false_eq_true, if_true, if_false, reduceIte]
  refine told_w hG z e2 (M.sm sm2) (fun xs nd hx => few (P := chP m w) hvs (by simp; omega) xs nd fun x => by rw [hx, M.vs]) (M.ok ok) fun d h3 p3 A => ?_
  refine sizes6_w hG hm2 hw2 fun h4 p4 e4 => ?_
  try simp only [List.set_cons_succ, List.set_cons_zero]
  have el : ixS h4 (.ref h3.length) (.int (-1)) = some (nD (sz m w), h4) := ixS_ref (asL_at e4) (by
      unfold atI ixN
      rw [if_neg (by decide), fnD_len, if_pos (by omega), show ((-1 : Int) + ((m + 1 : Nat) : Int)).toNat = m from by omega]
      exact fnD_get (f := fun k => nD (sz k w)) (by omega))
  have R4 := R2.pre (p3.trans p4)
  have K4 : Kp s c h h4 := (Kp.pre p1).trans (K2.trans (Kp.pre (p3.trans p4)))
  refine wSs_c ?_
  simp only [wS, wE, wEs, wPs, kysOf, D.ky, wO, wT, wI, Op2.sem, Bi.sem, okS, okB, En.px, List.getElem?_cons_zero, List.getElem?_cons_succ, List.set_cons_zero, List.set_cons_succ, List.map_cons, List.map_nil, List.cons_append, List.nil_append, List.append_nil, Bool.false_eq_true, if_true, if_false, reduceIte]
  rw [el]
  dsimp only
  rw [show gtS h4 (nD (sz m w)) (.int 60) = some (.bl (decide (60 < sz m w)), h4) from by
    show some (D.bl (decide ((60 : Int) < (sz m w : Int))), h4) = _
    rw [show decide ((60 : Int) < (sz m w : Int)) = decide (60 < sz m w) from decide_eq_decide.mpr (by omega)]]
  simp only [truD_b]
  have sx : ∀ k, k ≤ m → (chS m w (Lt k)).size = sz (m - k) w := fun k hk => by rw [chS_at hk]; exact dbl_size (by unfold Xv; exact size_v) _
  by_cases g : 60 < sz m w
  · rw [decide_eq_true g, if_pos rfl]
    have := A.great M ⟨_, best.sol⟩ fun r hr => ⟨Lt 0, (chP_vs hm hw).2 ⟨0, by omega, rfl⟩, by
      rw [best.most r hr _ ((chP_vs hm hw).2 ⟨0, by omega, rfl⟩)]
      have a1 := size_sub (s := r) (chS m w (Lt 0))
      have a2 := sx 0 (by omega)
      rw [Nat.sub_zero] at a2
      omega⟩
    subst this
    refine wSs_c ?_
    simp only [wS, wE, wEs, wPs, kysOf, D.ky, wO, wT, wI, Op2.sem, Bi.sem, okS, okB, En.px, List.getElem?_cons_zero, List.getElem?_cons_succ, List.set_cons_zero, List.set_cons_succ, List.map_cons, List.map_nil, List.cons_append, List.nil_append, List.append_nil, Bool.false_eq_true, if_true, if_false, reduceIte]
    rw [show eqS h4 (.str many) (.str [109, 97, 110, 121]) = some (.bl true, h4) from rfl]
    exact q h4 c2 K4 R4
  · rw [decide_eq_false g, if_neg (by decide)]
    obtain ⟨ks, mm, rfl, em, nd, mem⟩ := A.best M best fun x hx => by
      obtain ⟨k, hk, rfl⟩ := (chP_vs hm hw).1 hx
      rw [sx k hk]
      have := sz_mono hw (show m - k ≤ m by omega)
      omega
    have em4 := pre_at p4 em
    refine wSs_n (wSs_c ?_)
    simp only [wS, lk_r1]
    simp only [wS, wE, wEs, wPs, kysOf, D.ky, wO, wT, wI, Op2.sem, Bi.sem, okS, okB, En.px, List.getElem?_cons_zero, List.getElem?_cons_succ, List.set_cons_zero, List.set_cons_succ, List.map_cons, List.map_nil, List.cons_append, List.nil_append, List.append_nil, Bool.false_eq_true, if_true, if_false, reduceIte]
    rw [show addS h4 (nD m) (.int 1) = some (nD (m + 1), h4) from addS_n (b := 1)]
    dsimp only [nD]
    refine ⟨by omega, ?_⟩
    rw [Int.toNat_natCast, show rangeD 0 (m + 1) = (List.range (m + 1)).map nD from fnD_range]
    refine wItems_inv (fun i τ h' => ∃ v6, h' = h4 ∧ τ = [some (.ref s), some (nD m), some (nD w), some (.ref h1.length), some (.ref mm), some (.ref h3.length), v6]) (fun _ _ _ _ => trivial) ?_ ?_ ⟨_, rfl, rfl⟩
    · rintro i d τ h' kk ed ⟨v6, rfl, rfl⟩ hkk
      rw [List.getElem?_map] at ed
      obtain ⟨i', ei, rfl⟩ := Option.map_eq_some_iff.mp ed
      have hi : i < m + 1 := by simpa using (List.getElem?_eq_some_iff.mp ei).1
      rw [List.getElem?_range hi] at ei
      cases ei
      refine wG_n ?_
      simp only [List.set_cons_succ, List.set_cons_zero]
      refine wSs_c ?_
      simp only [wS, wE, wEs, wPs, kysOf, D.ky, wO, wT, wI, Op2.sem, Bi.sem, okS, okB, En.px, List.getElem?_cons_zero, List.getElem?_cons_succ, List.set_cons_zero, List.set_cons_succ, List.map_cons, List.map_nil, List.cons_append, List.nil_append, List.append_nil, Bool.false_eq_true, if_true, if_false, reduceIte]
      refine letter_w hG (by omega) ?_
      have hx : Lt i ∈ ks := (mem _).2 ((chP_vs hm hw).2 ⟨i, by omega, rfl⟩)
      rw [ixS_word em4 hx]
      dsimp only
      rw [show subS h' (nD m) (nD i) = some (nD (m - i), h') from by
        show some (D.int ((m : Int) - (i : Int)), h') = _
        rw [show (m : Int) - (i : Int) = ((m - i : Nat) : Int) from by omega]; rfl]
      refine letter_w hG (by omega) ?_
      rw [show D.str (Lt m) = dT (Xv m) from dT_v.symm]
      refine doubled_w hG (by omega) hw2 ?_
      rw [chS_at (by omega)]
      have hs2 : (dbl (m - i) w (Xv m)).size ≤ 95 := by
        rw [dbl_size (by unfold Xv; exact size_v)]
        have := sz_mono hw (show m - i ≤ m by omega)
        omega
      rw [neS_dT hs2]
      simp only [truD_b, Bool.false_eq_true, if_false]
      exact wSs_n (wSs_n (Z := Z) (C := WPc Z B (j + 15)) (hkk _ _ ⟨_, rfl, rfl⟩))
    · rintro τ h' ⟨v6, rfl, rfl⟩
      refine wSs_c ?_
      simp only [wS, wE, wEs, wPs, kysOf, D.ky, wO, wT, wI, Op2.sem, Bi.sem, okS, okB, En.px, List.getElem?_cons_zero, List.getElem?_cons_succ, List.set_cons_zero, List.set_cons_succ, List.map_cons, List.map_nil, List.cons_append, List.nil_append, List.append_nil, Bool.false_eq_true, if_true, if_false, reduceIte]
      have kl : ks.length = m + 1 := by
        have l1 := nodup_len nd fun x hx => hvs x ((mem x).1 hx)
        rw [List.length_map, List.length_range] at l1
        have l2 := nodup_len (l := (List.range (m + 1)).map Lt) (m := ks) (by
          rw [List.nodup_iff_pairwise_ne, List.pairwise_map]
          exact (List.nodup_iff_pairwise_ne.mp List.nodup_range).imp fun hab e => hab (Lt_inj e)) fun x hx => by
            obtain ⟨k, hk, rfl⟩ := List.mem_map.mp hx
            have := List.mem_range.mp hk
            exact (mem _).2 ((chP_vs hm hw).2 ⟨k, by omega, rfl⟩)
        rw [List.length_map, List.length_range] at l2
        omega
      rw [show lenS h' [.ref mm] = some (nD (m + 1), h') from by
        unfold lenS
        dsimp only
        rw [show asK h' (.ref mm) = some (sK ks fun x => dT (chS m w x)) from by simp only [asK, em4]]
        dsimp only
        rw [sK_len, kl]; rfl]
      dsimp only
      rw [show addS h' (nD m) (.int 1) = some (nD (m + 1), h') from addS_n (b := 1)]
      dsimp only
      rw [show eqS h' (nD (m + 1)) (nD (m + 1)) = some (.bl true, h') from by rw [show nD (m + 1) = .int ((m + 1 : Nat) : Int) from rfl, eqS_int]; simp]
      exact q h' c2 K4 R4
end
end Mi

set_option Elab.async false
set_option linter.all false
set_option maxRecDepth 100000
set_option maxHeartbeats 4000000
/-! great terms: links, as the law makes them -/
namespace Mi
open PySem PySem.Spec PyProof.Rows L2 Un
/-- the i-th name of a word's chain -/
def Nw (wd : Wd) (i : Nat) : Wd := wd ++ Lt i
def lkL (wd : Wd) (k : Nat) : Tx := .a [104] ((List.range 4).map fun j => .v (Nw wd (4 * k + (j + 1))))
def lkR (wd : Wd) (k : Nat) : Tx := .a [104] ((List.range 4).map fun j => .a [102] [.v (Nw wd (4 * k + j)), .v (Nw wd (4 * k + j))])
def lkP (wd : Wd) (n : Nat) : Uprs := (List.range n).map fun k => if k % 2 = 0 then (lkL wd k, lkR wd k) else (lkR wd k, lkL wd k)
theorem lk_unif {wd : Wd} {n : Nat} {r : Wd → Tx} (h : Unif r (lkP wd n)) : ∀ i, i < 4 * n → r (Nw wd (i + 1)) = .a [102] [r (Nw wd i), r (Nw wd i)] := fun i hi => by
  have hk : i / 4 < n := by omega
  have key : (lkL wd (i / 4)).sub r = (lkR wd (i / 4)).sub r := by
    have := h _ (List.mem_map.mpr ⟨i / 4, List.mem_range.mpr hk, rfl⟩)
    by_cases c : i / 4 % 2 = 0
    · rw [if_pos c] at this; exact this
    · rw [if_neg c] at this; exact this.symm
  unfold lkL lkR at key
  rw [sub_a, sub_a, List.map_map, List.map_map] at key
  injection key with _ key
  have := congrArg (fun l => l[i % 4]?) key
  have h4 : i % 4 < 4 := Nat.mod_lt _ (by decide)
  rw [List.getElem?_map, List.getElem?_map, List.getElem?_range h4, Option.map_some, Option.map_some] at this
  have := Option.some.inj this
  dsimp only [Function.comp] at this
  rw [sub_v, sub_a, List.map_cons, List.map_cons, List.map_nil, sub_v, show 4 * (i / 4) + (i % 4 + 1) = i + 1 from by omega, show 4 * (i / 4) + i % 4 = i from by omega] at this
  exact this
theorem lk_any {wd : Wd} {n : Nat} {r : Wd → Tx} (h : Unif r (lkP wd n)) : ∀ i, i ≤ 4 * n → r (Nw wd i) = dbl i 2 (r (Nw wd 0))
  | 0, _ => rfl
  | i + 1, hi => by
    rw [lk_unif h i (by omega), lk_any h i (by omega)]; rfl
theorem lk_sol {wd : Wd} {n : Nat} {r : Wd → Tx} {t : Tx} (hr : ∀ i, i ≤ 4 * n → r (Nw wd i) = dbl i 2 t) : Unif r (lkP wd n) := fun p hp => by
  obtain ⟨k, hk, rfl⟩ := List.mem_map.mp hp
  have hk := List.mem_range.mp hk
  have key : (lkL wd k).sub r = (lkR wd k).sub r := by
    unfold lkL lkR
    rw [sub_a, sub_a, List.map_map, List.map_map]
    congr 1
    refine List.map_congr_left fun j hj => ?_
    have hj := List.mem_range.mp hj
    dsimp only [Function.comp]
    rw [sub_v, sub_a, List.map_cons, List.map_cons, List.map_nil, sub_v, hr _ (by omega), hr _ (by omega)]; rfl
  by_cases c : k % 2 = 0
  · rw [if_pos c]; exact key
  · rw [if_neg c]; exact key.symm
theorem dbl_inj {w : Nat} (hw : 1 ≤ w) {t u : Tx} : ∀ k, dbl k w t = dbl k w u → t = u
  | 0, e => e
  | k + 1, e => by
    unfold dbl at e
    injection e with _ e
    have := congrArg (fun l => l[0]?) e
    rw [List.getElem?_replicate, List.getElem?_replicate, if_pos (by omega), if_pos (by omega)] at this
    exact dbl_inj hw k (Option.some.inj this)
theorem dbl_big {w : Nat} {t : Tx} : ∀ k, sz k w ≤ (dbl k w t).size
  | 0 => size_pos t
  | k + 1 => by
    unfold dbl sz
    rw [size_a, List.map_replicate, List.sum_replicate_nat]
    have := Nat.mul_le_mul_left w (dbl_big (w := w) (t := t) k)
    omega
theorem dbl1_size {t : Tx} : ∀ k, (dbl k 1 t).size = k + t.size
  | 0 => by unfold dbl; omega
  | k + 1 => by
    unfold dbl
    rw [size_a, List.map_replicate, List.sum_replicate_nat, dbl1_size k]; omega
theorem addS_str {h : Hh} {a b : List Nat} (hl : a.length + b.length ≤ 1000) : addS h (.str a) (.str b) = some (.str (a ++ b), h) := by
  unfold addS
  dsimp only
  exact if_pos (by rw [sizeLine_eq]; omega)
theorem cut_1 {α : Type} {l : List α} (h : 1 ≤ l.length) : cutL l (some 1) none = l.drop 1 := cut_drop (i := 1) h
section
variable {Z : Zi} {B : List Fd} (hG : HasG B)
include hG
theorem links_w {j n : Nat} {wd : Wd} {h : Hh} {Q : PQ} {Qx : PX} (hn : n ≤ 5) (hw : wd.length ≤ 10) (q : ∀ h', h <+: h' → h'[h.length]? = some (.lst ((lkP wd n).map pD)) → Q (.ref h.length) h') : WPc Z B (j + 2) 32 [.str wd, nD n] h Q Qx := by
  unfold WPc
  rw [hG.2.2.2.2.2.2.2.2.2.2.1]
  refine ⟨rfl, ?_⟩
  show wSs Z _ G6.b32.body _ [some (.str wd), some (nD n), none, none, none, none, none, none] h
  unfold G6.b32
  refine wSs_c ?_
  simp only [wS, wE, wEs, wPs, kysOf, D.ky, wO, wT, wI, Op2.sem, Bi.sem, okS, okB, En.px, List.getElem?_cons_zero, List.getElem?_cons_succ, List.set_cons_zero, List.set_cons_succ, List.map_cons, List.map_nil, List.cons_append, List.nil_append, List.append_nil, Bool.false_eq_true, if_true, if_false, reduceIte]
  refine ⟨by rw [sizeLine_eq]; simp, wG_n ?_⟩
  simp only [List.set_cons_succ, List.set_cons_zero]
  refine wSs_c ?_
  simp only [wS, lk_r1]
  simp only [wS, wE, wEs, wPs, kysOf, D.ky, wO, wT, wI, Op2.sem, Bi.sem, okS, okB, En.px, List.getElem?_cons_zero, List.getElem?_cons_succ, List.set_cons_zero, List.set_cons_succ, List.map_cons, List.map_nil, List.cons_append, List.nil_append, List.append_nil, Bool.false_eq_true, if_true, if_false, reduceIte]
  dsimp only [nD]
  refine ⟨by omega, ?_⟩
  rw [Int.toNat_natCast, show rangeD 0 n = (List.range n).map nD from fnD_range]
  refine wItems_inv (fun i τ h' => ∃ v3 v4 v5 v6 v7, h <+: h' ∧ h'[h.length]? = some (O.lst ((lkP wd i).map pD)) ∧ τ = [some (.str wd), some (nD n), some (.ref h.length), v3, v4, v5, v6, v7]) (fun _ _ _ _ => trivial) ?_ ?_ ⟨_, _, _, _, _, pre_snoc (List.prefix_refl _), new_at, rfl⟩
  · rintro i d τ h' kk ed ⟨v3, v4, v5, v6, v7, p, e, rfl⟩ hkk
    rw [List.getElem?_map] at ed
    obtain ⟨i', ei, rfl⟩ := Option.map_eq_some_iff.mp ed
    have hi : i < n := by simpa using (List.getElem?_eq_some_iff.mp ei).1
    rw [List.getElem?_range hi] at ei
    cases ei
    refine wG_n ?_
    simp only [List.set_cons_succ, List.set_cons_zero]
    refine wSs_c ?_
    simp only [wS, wE, wEs, wPs, kysOf, D.ky, wO, wT, wI, Op2.sem, Bi.sem, okS, okB, En.px, List.getElem?_cons_zero, List.getElem?_cons_succ, List.set_cons_zero, List.set_cons_succ, List.map_cons, List.map_nil, List.cons_append, List.nil_append, List.append_nil, Bool.false_eq_true, if_true, if_false, reduceIte]
    simp only [lk_r1]
    refine ⟨by decide, ?_⟩
    rw [show rangeD 0 (Int.toNat 5) = (List.range 5).map nD from fnD_range (N := 5)]
    refine wAcc_m (l := List.range 5) nD (fun jn => .str (Nw wd (4 * i + jn))) (fun _ _ => trivial) (fun jn hj q' sk h2 p2 hq => ?_) (by simp) fun h2 p2 e2 => ?_
    · have hj := List.mem_range.mp hj
      simp only [wipeA, List.set_cons_succ, List.set_cons_zero]
      refine wG_n ?_
      simp only [wS, wE, wEs, wPs, kysOf, D.ky, wO, wT, wI, Op2.sem, Bi.sem, okS, okB, En.px, List.getElem?_cons_zero, List.getElem?_cons_succ, List.set_cons_zero, List.set_cons_succ, List.map_cons, List.map_nil, List.cons_append, List.nil_append, List.append_nil, Bool.false_eq_true, if_true, if_false, reduceIte]
      rw [show mulS h2 (.int 4) (nD i) = some (nD (4 * i), h2) from by
        show mulS h2 (.int 4) (.int (i : Int)) = _
        rw [mulS_p (by decide +kernel) (Nat.lt_of_lt_of_le (show (i : Int).natAbs < 2 ^ 10 by omega) (by decide +kernel))]
        show some (D.int (4 * (i : Int)), h2) = _
        rw [show (4 : Int) * (i : Int) = ((4 * i : Nat) : Int) from by omega]; rfl]
      dsimp only
      rw [addS_n]
      refine letter_w hG (by omega) ?_
      rw [addS_str (by simp [Lt]; omega)]
      exact hq _ (List.prefix_refl _)
    · refine wG_n ?_
      simp only [List.set_cons_succ, List.set_cons_zero]
      refine wSs_c ?_
      simp only [wS, wE, wEs, wPs, kysOf, D.ky, wO, wT, wI, Op2.sem, Bi.sem, okS, okB, En.px, List.getElem?_cons_zero, List.getElem?_cons_succ, List.set_cons_zero, List.set_cons_succ, List.map_cons, List.map_nil, List.cons_append, List.nil_append, List.append_nil, Bool.false_eq_true, if_true, if_false, reduceIte]
      rw [slS_lst e2, cut_1 (by simp)]
      dsimp only
      rw [tupS_ref new_at]
      refine ⟨by rw [sizeLine_eq]; simp, wG_n ?_⟩
      simp only [List.set_cons_succ, List.set_cons_zero]
      have p3 := pre_snoc (List.prefix_refl h2) (o := O.lst (((List.range 5).map fun jn => D.str (Nw wd (4 * i + jn))).drop 1))
      have e3 := pre_at p3 e2
      revert e3 p3
      generalize h2 ++ [O.lst (((List.range 5).map fun jn => D.str (Nw wd (4 * i + jn))).drop 1)] = h3
      intro p3 e3
      refine wSs_c ?_
      simp only [wS, wE, wEs, wPs, kysOf, D.ky, wO, wT, wI, Op2.sem, Bi.sem, okS, okB, En.px, List.getElem?_cons_zero, List.getElem?_cons_succ, List.set_cons_zero, List.set_cons_succ, List.map_cons, List.map_nil, List.cons_append, List.nil_append, List.append_nil, Bool.false_eq_true, if_true, if_false, reduceIte]
      simp only [lk_r1]
      refine ⟨by decide, ?_⟩
      rw [show rangeD 0 (Int.toNat 4) = (List.range 4).map nD from fnD_range (N := 4)]
      refine wAcc_m (l := List.range 4) nD (fun jn => .tup [.str [102], .tup [.str (Nw wd (4 * i + jn)), .str (Nw wd (4 * i + jn))]]) (fun _ _ => trivial) (fun jn hj q' sk h4 p4 hq => ?_) (by simp) fun h4 p4 e4 => ?_
      · have hj := List.mem_range.mp hj
        simp only [wipeA, List.set_cons_succ, List.set_cons_zero]
        refine wG_n ?_
        simp only [wS, wE, wEs, wPs, kysOf, D.ky, wO, wT, wI, Op2.sem, Bi.sem, okS, okB, En.px, List.getElem?_cons_zero, List.getElem?_cons_succ, List.set_cons_zero, List.set_cons_succ, List.map_cons, List.map_nil, List.cons_append, List.nil_append, List.append_nil, Bool.false_eq_true, if_true, if_false, reduceIte]
        have ix := ixS_at (d := .str (Nw wd (4 * i + jn))) (pre_at p4 e3) (i := jn) (by rw [List.getElem?_map, List.getElem?_range (by omega)]; rfl)
        rw [ix]
        dsimp only
        rw [ix]
        exact ⟨by rw [sizeLine_eq]; simp, by rw [sizeLine_eq]; simp, hq _ (List.prefix_refl _)⟩
      · rw [tupS_ref e4]
        refine ⟨by rw [sizeLine_eq]; simp, wG_n ?_⟩
        simp only [List.set_cons_succ, List.set_cons_zero]
        have el : D.tup [.str [104], .tup (((List.range 5).map fun jn => D.str (Nw wd (4 * i + jn))).drop 1)] = dT (lkL wd i) := by
          unfold lkL
          rw [dT_a, List.map_map]
          rfl
        have er : D.tup [.str [104], .tup ((List.range 4).map fun jn => D.tup [.str [102], .tup [.str (Nw wd (4 * i + jn)), .str (Nw wd (4 * i + jn))]])] = dT (lkR wd i) := by
          unfold lkR
          rw [dT_a, List.map_map]
          congr 3
        rw [el, er]
        have p5 := p2.trans (p3.trans p4)
        have e5 := pre_at p5 e
        refine wSs_c ?_
        simp only [wS, wE, wEs, wPs, kysOf, D.ky, wO, wT, wI, Op2.sem, Bi.sem, okS, okB, En.px, List.getElem?_cons_zero, List.getElem?_cons_succ, List.set_cons_zero, List.set_cons_succ, List.map_cons, List.map_nil, List.cons_append, List.nil_append, List.append_nil, Bool.false_eq_true, if_true, if_false, reduceIte]
        rw [recT_lst e5]
        refine ⟨rfl, by rw [sizeLine_eq]; simp, by rw [sizeLine_eq]; simp, by rw [sizeLine_eq]; simp, ?_⟩
        rw [show ∀ hh, modS hh (nD i) (.int 2) = some (nD (i % 2), hh) from fun hh => by
          show modS hh (.int (i : Int)) (.int 2) = _
          rw [modS_p (by decide)]
          show some (D.int ((i : Int) % 2), hh) = _
          rw [show (i : Int) % 2 = ((i % 2 : Nat) : Int) from by omega]; rfl]
        dsimp only
        rw [ixS_at (d := pD (if i % 2 = 0 then (lkL wd i, lkR wd i) else (lkR wd i, lkL wd i))) new_at (i := i % 2) (by
          have : i % 2 = 0 ∨ i % 2 = 1 := by omega
          rcases this with c | c
          · rw [c]; rfl
          · rw [c]; rfl)]
        dsimp only
        rw [push_at (pre_at (pre_snoc (List.prefix_refl _)) e5) (by rw [List.length_map]; simp [lkP]; omega)]
        refine wSs_n (hkk _ _ ⟨_, _, _, _, _, pre_set ((p.trans p5).trans (pre_snoc (List.prefix_refl _))) (Nat.le_refl _), ?_, rfl⟩)
        have : lkP wd (i + 1) = lkP wd i ++ [if i % 2 = 0 then (lkL wd i, lkR wd i) else (lkR wd i, lkL wd i)] := by unfold lkP; rw [List.range_succ, List.map_append]; rfl
        rw [this, List.map_append, List.map_cons, List.map_nil]
        exact set_self (pre_at (pre_snoc (List.prefix_refl _)) e5)
  · rintro τ h' ⟨v3, v4, v5, v6, v7, p, e, rfl⟩
    rw [List.length_map, List.length_range] at e
    refine wSs_c ?_
    simp only [wS, wE, wEs, wPs, kysOf, D.ky, wO, wT, wI, Op2.sem, Bi.sem, okS, okB, En.px, List.getElem?_cons_zero, List.getElem?_cons_succ, List.set_cons_zero, List.set_cons_succ, List.map_cons, List.map_nil, List.cons_append, List.nil_append, List.append_nil, Bool.false_eq_true, if_true, if_false, reduceIte]
    exact q h' p e
end
end Mi

set_option Elab.async false
set_option linter.all false
set_option maxRecDepth 100000
set_option maxHeartbeats 4000000
/-! great terms: long ones -/
namespace Mi
open PySem PySem.Spec PyProof.Rows L2 Un
def dd : List Wd → List Wd
  | [] => []
  | x :: l => if x ∈ dd l then dd l else x :: dd l
theorem dd_mem {x : Wd} : ∀ l : List Wd, x ∈ l → x ∈ dd l
  | y :: l, h => by
    unfold dd
    rcases List.mem_cons.mp h with rfl | h
    · split
      · assumption
      · exact List.mem_cons_self
    · have := dd_mem l h
      split
      · exact this
      · exact List.mem_cons_of_mem _ this
/-- what unified wants of pairs -/
def chk (P : Uprs) : Bool := okP P && ((P.all fun p => smT p.1 && smT p.2) && decide ((dd (Vs P)).length < 64))
theorem chk_of {P : Uprs} (h : chk P = true) : okP P = true ∧ (∀ p ∈ P, smT p.1 = true ∧ smT p.2 = true) ∧ ∀ xs : List Wd, xs.Nodup → (∀ x, x ∈ xs ↔ x ∈ Vs P) → xs.length < 64 := by
  unfold chk at h
  rw [Bool.and_eq_true, Bool.and_eq_true, decide_eq_true_iff] at h
  refine ⟨h.1, fun p hp => ?_, few (fun x hx => dd_mem _ hx) h.2.2⟩
  have := List.all_eq_true.mp h.2.1 p hp
  rwa [Bool.and_eq_true] at this
theorem ok_len {P : Uprs} (h : okP P = true) : P.length ≤ 10 := by
  unfold okP at h
  rw [Bool.and_eq_true, decide_eq_true_iff] at h
  exact h.1
section
variable {Z : Zi} {B : List Fd} (hG : HasG B) (z : Z06 Z)
include hG z
/-- mixed and asked -/
theorem ask_w {j a s c : Nat} {P : Uprs} {t : Int} {cells : List Int} {h : Hh} {Q : PQ} {Qx : PX} (R : Src h s c t cells) (ea : h[a]? = some (.lst (P.map pD))) (as : a ≠ s) (ac : a ≠ c) (ht : t < 100000) (ck : chk P = true)
    (q : ∀ P' d h' cells', MixP P P' → Ans6 P' d h' → Kp s c h h' → Src h' s c (t + 2 * P.length) cells' → Q d h') : WPc Z B (j + 15) 29 [.ref s, .ref a] h (fun x h1 => WPc Z B (j + 15) 25 [x] h1 Q Qx) Qx := by
  obtain ⟨ok, sm, hv⟩ := chk_of ck
  have := ok_len ok
  refine mixed_w hG R ea as ac (by omega) (by omega) fun P' h2 c2 M K2 R2 e2 => ?_
  exact told_w hG z e2 (M.sm sm) (fun xs nd hx => hv xs nd fun x => by rw [hx, M.vs]) (M.ok ok) fun d h3 p3 A => q P' d h3 c2 M A (K2.trans (Kp.pre p3)) (R2.pre p3)
end
/-! ### deep ones -/
def Zw (k : Nat) : Wd := Nw [90] k
def dpP (n : Nat) : Uprs := (List.range n).map fun k => (.v (Zw k), dbl 4 1 (.v (Zw (k + 1))))
theorem dbl_add {w : Nat} {t : Tx} {j : Nat} : ∀ i, dbl i w (dbl j w t) = dbl (i + j) w t
  | 0 => by rw [Nat.zero_add]; rfl
  | i + 1 => by
    rw [show i + 1 + j = (i + j) + 1 from by omega]
    show Tx.a [102] (List.replicate w (dbl i w (dbl j w t))) = Tx.a [102] (List.replicate w (dbl (i + j) w t))
    rw [dbl_add i]
theorem dp_any {r : Wd → Tx} {k0 : Nat} (h : ∀ k, k0 ≤ k → k < 10 → r (Zw k) = dbl 4 1 (r (Zw (k + 1)))) : ∀ j k, k0 ≤ k → k + j = 10 → r (Zw k) = dbl (4 * j) 1 (r (Zw 10))
  | 0, k, _, e => by rw [show k = 10 from by omega]; rfl
  | j + 1, k, h0, e => by
    rw [h k h0 (by omega), dp_any h j (k + 1) (by omega) (by omega), dbl_add, show 4 + 4 * j = 4 * (j + 1) from by omega]
theorem dp_eq {r : Wd → Tx} {k : Nat} (h : (Tx.v (Zw k)).sub r = (dbl 4 1 (.v (Zw (k + 1)))).sub r) : r (Zw k) = dbl 4 1 (r (Zw (k + 1))) := by
  rw [sub_v, dbl_sub, sub_v] at h
  exact h
theorem dp_mem {k : Nat} (hk : k < 10) : (Tx.v (Zw k), dbl 4 1 (.v (Zw (k + 1)))) ∈ dpP 10 := List.mem_map.mpr ⟨k, List.mem_range.mpr hk, rfl⟩
def dpS : Wd → Tx
  | [90, d] => if 65 ≤ d ∧ d ≤ 75 then dbl (4 * (10 - (d - 65))) 1 (.v (Zw 10)) else .v [90, d]
  | x => .v x
theorem dpS_at {k : Nat} (h : k ≤ 10) : dpS (Zw k) = dbl (4 * (10 - k)) 1 (.v (Zw 10)) := by
  show (if 65 ≤ 65 + k ∧ 65 + k ≤ 75 then dbl (4 * (10 - (65 + k - 65))) 1 (.v (Zw 10)) else .v [90, 65 + k]) = _
  rw [if_pos (by omega), Nat.add_sub_cancel_left]
theorem Zw_inj {a b : Nat} (h : Zw a = Zw b) : a = b := by
  unfold Zw Nw Lt at h
  injection h with _ h
  injection h with h
  omega
theorem dp_vs {x : Wd} : x ∈ Vs (dpP 10) ↔ ∃ k, k ≤ 10 ∧ x = Zw k := by
  unfold Vs dpP
  rw [List.mem_flatMap]
  constructor
  · rintro ⟨p, hp, hx⟩
    obtain ⟨k, hk, rfl⟩ := List.mem_map.mp hp
    have hk := List.mem_range.mp hk
    rcases List.mem_append.mp hx with q | q
    · dsimp only at q
      rw [vars_v, List.mem_singleton] at q
      exact ⟨k, by omega, q⟩
    · have := dbl_vars _ q
      rw [vars_v, List.mem_singleton] at this
      exact ⟨k + 1, by omega, this⟩
  · rintro ⟨k, hk, rfl⟩
    by_cases c : k = 10
    · refine ⟨_, List.mem_map.mpr ⟨9, by decide, rfl⟩, List.mem_append_right _ ?_⟩
      subst c
      decide +kernel
    · exact ⟨_, List.mem_map.mpr ⟨k, List.mem_range.mpr (by omega), rfl⟩, List.mem_append_left _ (by dsimp only; rw [vars_v]; exact List.mem_singleton_self _)⟩
theorem dp_best : Best dpS (dpP 10) where
  sol := fun p hp => by
    obtain ⟨k, hk, rfl⟩ := List.mem_map.mp hp
    have hk := List.mem_range.mp hk
    dsimp only
    rw [sub_v, dbl_sub, sub_v, dpS_at (by omega), dpS_at (by omega), dbl_add, show 4 + 4 * (10 - (k + 1)) = 4 * (10 - k) from by omega]
  most := fun r hr x hx => by
    obtain ⟨k, hk, rfl⟩ := dp_vs.1 hx
    rw [dpS_at hk, dbl_sub, sub_v]
    exact dp_any (k0 := 0) (fun k _ hk => dp_eq (hr _ (dp_mem hk))) (10 - k) k (by omega) (by omega)
  idem := fun x hx => by
    obtain ⟨k, hk, rfl⟩ := dp_vs.1 hx
    rw [dpS_at hk, dbl_sub, sub_v, dpS_at (Nat.le_refl _)]; rfl
  inn := fun x hx y hy => by
    obtain ⟨k, hk, rfl⟩ := dp_vs.1 hx
    rw [dpS_at hk] at hy
    have := dbl_vars _ hy
    rw [vars_v, List.mem_singleton] at this
    exact dp_vs.2 ⟨10, Nat.le_refl _, this⟩
  least := fun x hx y hy z ex ey => by
    obtain ⟨k, hk, rfl⟩ := dp_vs.1 hx
    obtain ⟨l, hl, rfl⟩ := dp_vs.1 hy
    rw [dpS_at hk] at ex
    rw [dpS_at hl] at ey
    have z0 : ∀ j, dbl j 1 (.v (Zw 10)) = .v z → j = 0 ∧ z = Zw 10 := fun j e => by
      cases j with
      | zero => exact ⟨rfl, by unfold dbl at e; injection e with e; exact e.symm⟩
      | succ j => unfold dbl at e; cases e
    obtain ⟨a, rfl⟩ := z0 _ ex
    obtain ⟨b, _⟩ := z0 _ ey
    refine ⟨dp_vs.2 ⟨10, Nat.le_refl _, rfl⟩, ?_, ?_⟩
    · rw [dpS_at (Nat.le_refl _)]; rfl
    · rw [show l = 10 from by omega]; exact List.le_refl _
def dpC : Uprs := (dpP 10).drop 1 ++ [(.v (Zw 10), .v (Zw 1))]
theorem dpC_none : ¬ ∃ r, Unif r dpC := by
  rintro ⟨r, hr⟩
  have h1 : ∀ k, 1 ≤ k → k < 10 → r (Zw k) = dbl 4 1 (r (Zw (k + 1))) := fun k h0 hk => by
    refine dp_eq (hr (Tx.v (Zw k), dbl 4 1 (.v (Zw (k + 1)))) (List.mem_append_left _ ?_))
    have : (dpP 10)[k]? = some (Tx.v (Zw k), dbl 4 1 (.v (Zw (k + 1)))) := by unfold dpP; rw [List.getElem?_map, List.getElem?_range hk]; rfl
    refine List.mem_of_getElem? (i := k - 1) ?_
    rw [List.getElem?_drop, show 1 + (k - 1) = k from by omega]; exact this
  have e1 := dp_any h1 9 1 (by omega) (by omega)
  have e2 := hr (.v (Zw 10), .v (Zw 1)) (List.mem_append_right _ (List.mem_singleton_self _))
  dsimp only at e2
  rw [sub_v, sub_v] at e2
  rw [e2] at e1
  have := congrArg Tx.size e1
  rw [dbl1_size] at this
  omega
/-! ### two chains with their ends the same -/
def at0 (a : Wd) : Tx := .a a []
def twP (a b : Wd) : Uprs := (lkP [88] 4 ++ lkP [89] 4 ++ [(.v (Nw [88] 16), .v (Nw [89] 16))]) ++ [(.a [103] [.v (Nw [88] 0), .v (Nw [89] 0)], .a [103] [at0 a, at0 b])]
theorem tw_facts {a b : Wd} {r : Wd → Tx} (h : Unif r (twP a b)) : r (Nw [88] 0) = at0 a ∧ r (Nw [89] 0) = at0 b ∧ r (Nw [88] 6) = dbl 6 2 (at0 a) ∧ at0 a = at0 b := by
  have hx : Unif r (lkP [88] 4) := fun p hp => h p (List.mem_append_left _ (List.mem_append_left _ (List.mem_append_left _ hp)))
  have hy : Unif r (lkP [89] 4) := fun p hp => h p (List.mem_append_left _ (List.mem_append_left _ (List.mem_append_right _ hp)))
  have hq := h (.v (Nw [88] 16), .v (Nw [89] 16)) (List.mem_append_left _ (List.mem_append_right _ (List.mem_singleton_self _)))
  have hg := h (.a [103] [.v (Nw [88] 0), .v (Nw [89] 0)], .a [103] [at0 a, at0 b]) (List.mem_append_right _ (List.mem_singleton_self _))
  dsimp only at hq hg
  rw [sub_v, sub_v, lk_any hx 16 (by decide), lk_any hy 16 (by decide)] at hq
  have hq := dbl_inj (by decide) 16 hq
  unfold at0 at hg
  rw [sub_a, sub_a] at hg
  injection hg with _ hg
  simp only [List.map_cons, List.map_nil, sub_v, sub_a] at hg
  injection hg with h1 hg
  injection hg with h2 _
  refine ⟨h1, h2, ?_, ?_⟩
  · rw [lk_any hx 6 (by decide), h1]; rfl
  · unfold at0
    rw [← h1, ← h2, hq]
theorem tw_none {a b : Wd} (hab : a ≠ b) : ¬ ∃ r, Unif r (twP a b) := by
  rintro ⟨r, hr⟩
  have := (tw_facts hr).2.2.2
  unfold at0 at this
  injection this with e
  exact hab e
def twS (a : Wd) : Wd → Tx
  | [_, d] => dbl (d - 65) 2 (at0 a)
  | x => .v x
theorem tw_some (a : Wd) : ∃ r, Unif r (twP a a) := by
  refine ⟨twS a, fun p hp => ?_⟩
  have hat : ∀ w i, twS a (Nw [w] i) = dbl i 2 (at0 a) := fun w i => by
    show dbl (65 + i - 65) 2 (at0 a) = _
    rw [Nat.add_sub_cancel_left]
  rcases List.mem_append.mp hp with hp | hp
  · rcases List.mem_append.mp hp with hp | hp
    · rcases List.mem_append.mp hp with hp | hp
      · exact lk_sol (n := 4) (fun i _ => hat 88 i) p hp
      · exact lk_sol (n := 4) (fun i _ => hat 89 i) p hp
    · rw [List.mem_singleton.mp hp]
      dsimp only
      rw [sub_v, sub_v, hat, hat]
  · rw [List.mem_singleton.mp hp]
    dsimp only
    unfold at0
    rw [sub_a, sub_a]
    simp only [List.map_cons, List.map_nil, sub_v, sub_a]
    rw [hat, hat]; rfl
theorem tw_big {a : Wd} {r : Wd → Tx} (h : Unif r (twP a a)) : ∃ x, x ∈ Vs (twP a a) ∧ 60 < (r x).size := by
  refine ⟨Nw [88] 6, ?_, ?_⟩
  · unfold Vs
    rw [List.mem_flatMap]
    refine ⟨(if 1 % 2 = 0 then (lkL [88] 1, lkR [88] 1) else (lkR [88] 1, lkL [88] 1)), List.mem_append_left _ (List.mem_append_left _ (List.mem_append_left _ (List.mem_map.mpr ⟨1, by decide, rfl⟩))), ?_⟩
    decide +kernel
  · rw [(tw_facts h).2.2.1]
    have := dbl_big (w := 2) (t := at0 a) 6
    have e : sz 6 2 = 127 := by decide
    omega
theorem tw_chk : ∀ a ∈ ([[97], [98]] : List Wd), ∀ b ∈ ([[97], [98]] : List Wd), chk (twP a b) = true := by decide +kernel
theorem dp_chk : chk (dpP 10) = true ∧ chk dpC = true := by decide +kernel
end Mi

set_option Elab.async false
set_option linter.all false
set_option maxRecDepth 100000
set_option maxHeartbeats 4000000
/-! great terms: the long ones, as the law asks them -/
namespace Mi
open PySem PySem.Spec PyProof.Rows L2 Un
theorem kl_eq {ks : List Wd} {n : Nat} {f : Nat → Wd} (nd : ks.Nodup) (hf : ∀ a b, f a = f b → a = b) (mem : ∀ x, x ∈ ks ↔ ∃ k, k ≤ n ∧ x = f k) : ks.length = n + 1 := by
  have l1 := nodup_len (l := ks) (m := (List.range (n + 1)).map f) nd fun x hx => by
    obtain ⟨k, hk, rfl⟩ := (mem x).1 hx
    exact List.mem_map_of_mem (List.mem_range.mpr (by omega))
  rw [List.length_map, List.length_range] at l1
  have l2 := nodup_len (l := (List.range (n + 1)).map f) (m := ks) (by
    rw [List.nodup_iff_pairwise_ne, List.pairwise_map]
    exact (List.nodup_iff_pairwise_ne.mp List.nodup_range).imp fun hab e => hab (hf _ _ e)) fun x hx => by
      obtain ⟨k, hk, rfl⟩ := List.mem_map.mp hx
      have := List.mem_range.mp hk
      exact (mem _).2 ⟨k, by omega, rfl⟩
  rw [List.length_map, List.length_range] at l2
  omega
theorem lenS_dct {h : Hh} {m : Nat} {lk : Bool} {ks : List Wd} {f : Wd → D} (e : h[m]? = some (.dct lk (sK ks f))) : lenS h [.ref m] = some (nD ks.length, h) := by
  unfold lenS
  dsimp only
  rw [show asK h (.ref m) = some (sK ks f) from by simp only [asK, e]]
  dsimp only
  rw [sK_len]; rfl
section
variable {Z : Zi} {B : List Fd} (hG : HasG B) (z : Z06 Z)
include hG z
theorem long_w {j s c : Nat} {t : Int} {cells : List Int} {h : Hh} {Q : PQ} {Qx : PX} (R : Src h s c t cells) (ht : t < 50000) (q : ∀ h' t' cells', t' ≤ t + 1000 → Src h' s c t' cells' → Q (.bl true) h') : WPc Z B (j + 16) 33 [.ref s] h Q Qx := by
  unfold WPc
  rw [hG.2.2.2.2.2.2.2.2.2.2.2.1]
  refine ⟨rfl, ?_⟩
  show wSs Z _ G6.b33.body _ [some (.ref s), none, none, none, none, none, none, none, none, none, none] h
  unfold G6.b33
  obtain ⟨sl, cl⟩ := R.lts
  refine wSs_c ?_
  simp only [wS, wE, wEs, wPs, kysOf, D.ky, wO, wT, wI, Op2.sem, Bi.sem, okS, okB, En.px, List.getElem?_cons_zero, List.getElem?_cons_succ, List.set_cons_zero, List.set_cons_succ, List.map_cons, List.map_nil, List.cons_append, List.nil_append, List.append_nil, Bool.false_eq_true, if_true, if_false, reduceIte]
  refine links_w hG (n := 4) (by decide) (by decide) fun h1 p1 e1 => ?_
  refine links_w hG (n := 4) (by decide) (by decide) fun h2 p2 e2 => ?_
  rw [addS_ll (pre_at p2 e1) e2 (by simp [lkP])]
  dsimp only
  have p3 := pre_snoc (p1.trans p2) (o := O.lst ((lkP [88] 4).map pD ++ (lkP [89] 4).map pD))
  refine ⟨by rw [sizeLine_eq]; simp, by rw [sizeLine_eq]; simp, ?_⟩
  rw [addS_ll (pre_at (pre_snoc (List.prefix_refl _)) new_at) new_at (by simp [lkP])]
  refine wG_n ?_
  simp only [List.set_cons_succ, List.set_cons_zero]
  have e0 : ∀ hh : Hh, (hh ++ [O.lst ((lkP [88] 4).map pD ++ (lkP [89] 4).map pD ++ [D.tup [.str [88, 81], .str [89, 81]]])])[hh.length]? = some (O.lst ((lkP [88] 4 ++ lkP [89] 4 ++ [(Tx.v (Nw [88] 16), Tx.v (Nw [89] 16))]).map pD)) := fun hh => by
    rw [new_at, List.map_append, List.map_append, List.map_cons, List.map_nil]
    unfold pD
    rw [dT_v, dT_v]; rfl
  have p4 := pre_snoc (pre_snoc p3 (o := O.lst [D.tup [.str [88, 81], .str [89, 81]]])) (o := O.lst ((lkP [88] 4).map pD ++ (lkP [89] 4).map pD ++ [D.tup [.str [88, 81], .str [89, 81]]]))
  have e4 := e0 (h2 ++ [O.lst ((lkP [88] 4).map pD ++ (lkP [89] 4).map pD)] ++ [O.lst [D.tup [.str [88, 81], .str [89, 81]]]])
  have l4 : h.length ≤ (h2 ++ [O.lst ((lkP [88] 4).map pD ++ (lkP [89] 4).map pD)] ++ [O.lst [D.tup [.str [88, 81], .str [89, 81]]]]).length := by
    have := pre_len p1
    have := pre_len p2
    simp only [List.length_append, List.length_cons, List.length_nil]; omega
  revert p4 e4 l4
  generalize (h2 ++ [O.lst ((lkP [88] 4).map pD ++ (lkP [89] 4).map pD)] ++ [O.lst [D.tup [.str [88, 81], .str [89, 81]]]]).length = l1
  generalize h2 ++ [O.lst ((lkP [88] 4).map pD ++ (lkP [89] 4).map pD)] ++ [O.lst [D.tup [.str [88, 81], .str [89, 81]]]] ++ [O.lst ((lkP [88] 4).map pD ++ (lkP [89] 4).map pD ++ [D.tup [.str [88, 81], .str [89, 81]]])] = h4
  intro p4 e4 l4
  have R4 := R.pre p4
  refine wSs_c ?_
  simp only [wS, lk_of']
  simp only [wS, wE, wEs, wPs, kysOf, D.ky, wO, wT, wI, Op2.sem, Bi.sem, okS, okB, En.px, List.getElem?_cons_zero, List.getElem?_cons_succ, List.set_cons_zero, List.set_cons_succ, List.map_cons, List.map_nil, List.cons_append, List.nil_append, List.append_nil, Bool.false_eq_true, if_true, if_false, reduceIte]
  refine ⟨by rw [sizeLine_eq]; simp, by rw [sizeLine_eq]; simp, by rw [sizeLine_eq]; simp, by rw [sizeLine_eq]; simp, ?_⟩
  dsimp only [srcD]
  rw [asL_at new_at]
  dsimp only
  have p5 := pre_snoc (List.prefix_refl h4) (o := O.lst [D.tup [.str [97], .str [98], .non], .tup [.str [97], .str [97], .str [109, 97, 110, 121]], .tup [.str [98], .str [97], .non]])
  have e5 : (h4 ++ [O.lst [D.tup [.str [97], .str [98], .non], .tup [.str [97], .str [97], .str [109, 97, 110, 121]], .tup [.str [98], .str [97], .non]]])[h4.length]? = _ := new_at
  have R5 := R4.pre p5
  have e45 := pre_at p5 e4
  have l5 : h.length ≤ h4.length := pre_len p4
  revert R5 e5 e45
  generalize h4 ++ [O.lst [D.tup [.str [97], .str [98], .non], .tup [.str [97], .str [97], .str [109, 97, 110, 121]], .tup [.str [98], .str [97], .non]]] = h5
  intro e5 R5 e45
  refine wItems_inv (fun i τ h' => ∃ (t' : Int) (cells' : List Int) (v2 v3 v4 v5 : Option D), Src h' s c t' cells' ∧ t' ≤ t + 20 * (i : Int) ∧ Kp s c h5 h' ∧ τ = [some (.ref s), some (.ref l1), v2, v3, v4, v5, none, none, none, none, none]) (fun i τ h' ⟨_, _, _, _, _, _, _, _, K, _⟩ => asL_at (K.get e5 (by omega) (by omega))) ?_ ?_ ⟨t, cells, _, _, _, _, R5, by omega, Kp.refl _, rfl⟩
  · rintro i d τ h' kk ed ⟨t', cells', v2, v3, v4, v5, R', tl, K, rfl⟩ hkk
    obtain ⟨a, b, due, rfl, ha, hb, hd⟩ : ∃ a b due, d = .tup [.str a, .str b, due] ∧ a ∈ ([[97], [98]] : List Wd) ∧ b ∈ ([[97], [98]] : List Wd) ∧ ((a ≠ b ∧ due = .non) ∨ (a = b ∧ due = .str many)) := by
      match i, ed with
      | 0, ed => cases ed; exact ⟨_, _, _, rfl, by decide, by decide, .inl ⟨by decide, rfl⟩⟩
      | 1, ed => cases ed; exact ⟨_, _, _, rfl, by decide, by decide, .inr ⟨rfl, rfl⟩⟩
      | 2, ed => cases ed; exact ⟨_, _, _, rfl, by decide, by decide, .inl ⟨by decide, rfl⟩⟩
      | i + 3, ed => simp at ed
    have hi : i < 3 := by simpa using (List.getElem?_eq_some_iff.mp ed).1
    refine wG_3 ?_
    simp only [List.set_cons_succ, List.set_cons_zero]
    have e1' := K.get e45 (by omega) (by omega)
    refine wSs_c ?_
    simp only [wS, wE, wEs, wPs, kysOf, D.ky, wO, wT, wI, Op2.sem, Bi.sem, okS, okB, En.px, List.getElem?_cons_zero, List.getElem?_cons_succ, List.set_cons_zero, List.set_cons_succ, List.map_cons, List.map_nil, List.cons_append, List.nil_append, List.append_nil, Bool.false_eq_true, if_true, if_false, reduceIte]
    repeat (refine ⟨by rw [sizeLine_eq]; simp, ?_⟩)
    rw [addS_ll (pre_at (pre_snoc (List.prefix_refl _)) e1') new_at (by simp [lkP])]
    refine wG_n ?_
    simp only [List.set_cons_succ, List.set_cons_zero]
    have em : List.map pD (lkP [88] 4 ++ lkP [89] 4 ++ [(Tx.v (Nw [88] 16), Tx.v (Nw [89] 16))]) ++ [D.tup [.tup [.str [103], .tup [.str [88, 65], .str [89, 65]]], .tup [.str [103], .tup [.tup [.str a, .tup []], .tup [.str b, .tup []]]]]] = (twP a b).map pD := by
      unfold twP
      rw [List.map_append]
      congr 1
    rw [em]
    have p6 := pre_snoc (pre_snoc (List.prefix_refl h') (o := O.lst [D.tup [.tup [.str [103], .tup [.str [88, 65], .str [89, 65]]], .tup [.str [103], .tup [.tup [.str a, .tup []], .tup [.str b, .tup []]]]]])) (o := O.lst ((twP a b).map pD))
    obtain ⟨s1, c1⟩ := R'.lts
    have tlen : (twP a b).length = 10 := by simp [twP, lkP]
    refine wSs_c ?_
    simp only [wS, wE, wEs, wPs, kysOf, D.ky, wO, wT, wI, Op2.sem, Bi.sem, okS, okB, En.px, List.getElem?_cons_zero, List.getElem?_cons_succ, List.set_cons_zero, List.set_cons_succ, List.map_cons, List.map_nil, List.cons_append, List.nil_append, List.append_nil, Bool.false_eq_true, if_true, if_false, reduceIte]
    refine ask_w hG z (R'.pre p6) new_at (by simp only [List.length_append, List.length_cons, List.length_nil]; omega) (by simp only [List.length_append, List.length_cons, List.length_nil]; omega) (by omega) (tw_chk a ha b hb) fun P' dd h7 c7 M A K7 R7 => ?_
    have hdd : neS h7 dd due = some (.bl false, h7) := by
      rcases hd with ⟨hab, rfl⟩ | ⟨rfl, rfl⟩
      · rw [A.none M (tw_none hab)]; rfl
      · rw [A.great M (tw_some a) fun r hr => tw_big hr]; rfl
    rw [hdd]
    simp only [truD_b, Bool.false_eq_true, if_false]
    rw [tlen] at R7
    exact wSs_n (wSs_n (Z := Z) (C := WPc Z B (j + 15)) (hkk _ _ ⟨t' + 2 * (10 : Nat), c7, _, _, _, _, R7, by omega, (K.trans (Kp.pre p6)).trans K7, rfl⟩))
  · rintro τ h6 ⟨t', cells', v2, v3, v4, v5, R', tl, K, rfl⟩
    have tl : t' ≤ t + 60 := tl
    obtain ⟨s1, c1⟩ := R'.lts
    refine wSs_c ?_
    simp only [wS, wE, wEs, wPs, kysOf, D.ky, wO, wT, wI, Op2.sem, Bi.sem, okS, okB, En.px, List.getElem?_cons_zero, List.getElem?_cons_succ, List.set_cons_zero, List.set_cons_succ, List.map_cons, List.map_nil, List.cons_append, List.nil_append, List.append_nil, Bool.false_eq_true, if_true, if_false, reduceIte]
    refine ⟨by rw [sizeLine_eq]; simp, wG_n ?_⟩
    simp only [List.set_cons_succ, List.set_cons_zero]
    refine wSs_c ?_
    simp only [wS, lk_r1]
    simp only [wS, wE, wEs, wPs, kysOf, D.ky, wO, wT, wI, Op2.sem, Bi.sem, okS, okB, En.px, List.getElem?_cons_zero, List.getElem?_cons_succ, List.set_cons_zero, List.set_cons_succ, List.map_cons, List.map_nil, List.cons_append, List.nil_append, List.append_nil, Bool.false_eq_true, if_true, if_false, reduceIte]
    refine ⟨by decide, ?_⟩
    rw [show rangeD 0 (Int.toNat 10) = (List.range 10).map nD from fnD_range (N := 10)]
    refine wItems_inv (fun i τ h' => ∃ (v7 v8 v9 : Option D), h6 <+: h' ∧ h'[h6.length]? = some (O.lst ((dpP i).map pD)) ∧ τ = [some (.ref s), some (.ref l1), v2, v3, v4, v5, some (.ref h6.length), v7, v8, v9, none]) (fun _ _ _ _ => trivial) ?_ ?_ ⟨_, _, _, pre_snoc (List.prefix_refl _), new_at, rfl⟩
    · rintro i d τ h' kk ed ⟨v7, v8, v9, p, e, rfl⟩ hkk
      rw [List.getElem?_map] at ed
      obtain ⟨i', ei, rfl⟩ := Option.map_eq_some_iff.mp ed
      have hi : i < 10 := by simpa using (List.getElem?_eq_some_iff.mp ei).1
      rw [List.getElem?_range hi] at ei
      cases ei
      refine wG_n ?_
      simp only [List.set_cons_succ, List.set_cons_zero]
      refine wSs_c ?_
      simp only [wS, wE, wEs, wPs, kysOf, D.ky, wO, wT, wI, Op2.sem, Bi.sem, okS, okB, En.px, List.getElem?_cons_zero, List.getElem?_cons_succ, List.set_cons_zero, List.set_cons_succ, List.map_cons, List.map_nil, List.cons_append, List.nil_append, List.append_nil, Bool.false_eq_true, if_true, if_false, reduceIte]
      rw [show addS h' (nD i) (.int 1) = some (nD (i + 1), h') from addS_n (b := 1)]
      refine letter_w hG (by omega) ?_
      rw [addS_str (by simp [Lt])]
      refine wG_n ?_
      simp only [List.set_cons_succ, List.set_cons_zero]
      refine wSs_c ?_
      simp only [wS, lk_r1]
      simp only [wS, wE, wEs, wPs, kysOf, D.ky, wO, wT, wI, Op2.sem, Bi.sem, okS, okB, En.px, List.getElem?_cons_zero, List.getElem?_cons_succ, List.set_cons_zero, List.set_cons_succ, List.map_cons, List.map_nil, List.cons_append, List.nil_append, List.append_nil, Bool.false_eq_true, if_true, if_false, reduceIte]
      refine ⟨by decide, ?_⟩
      rw [show rangeD 0 (Int.toNat 4) = (List.range 4).map nD from fnD_range (N := 4)]
      refine wItems_inv (fun i' τ h'' => ∃ (v9 : Option D), h'' = h' ∧ τ = [some (.ref s), some (.ref l1), v2, v3, v4, v5, some (.ref h6.length), some (nD i), some (dT (dbl i' 1 (.v (Zw (i + 1))))), v9, none]) (fun _ _ _ _ => trivial) ?_ ?_ ⟨v9, rfl, by rw [show dT (dbl 0 1 (.v (Zw (i + 1)))) = .str ([90] ++ Lt (i + 1)) from dT_v]; rfl⟩
      · rintro i' d τ h'' kk2 ed2 ⟨v9, rfl, rfl⟩ hkk2
        refine wG_n ?_
        simp only [List.set_cons_succ, List.set_cons_zero]
        refine wSs_c ?_
        simp only [wS, wE, wEs, wPs, kysOf, D.ky, wO, wT, wI, Op2.sem, Bi.sem, okS, okB, En.px, List.getElem?_cons_zero, List.getElem?_cons_succ, List.set_cons_zero, List.set_cons_succ, List.map_cons, List.map_nil, List.cons_append, List.nil_append, List.append_nil, Bool.false_eq_true, if_true, if_false, reduceIte]
        refine ⟨by rw [sizeLine_eq]; simp, by rw [sizeLine_eq]; simp, wG_n (wSs_n (hkk2 _ _ ⟨some d, rfl, ?_⟩))⟩
        simp only [List.set_cons_succ, List.set_cons_zero]
        rw [show dT (dbl (i' + 1) 1 (.v (Zw (i + 1)))) = .tup [.str [102], .tup [dT (dbl i' 1 (.v (Zw (i + 1))))]] from dT_rep (w := 1)]
      · rintro τ h'' ⟨v9, rfl, rfl⟩
        rw [List.length_map, List.length_range]
        refine wSs_c ?_
        simp only [wS, wE, wEs, wPs, kysOf, D.ky, wO, wT, wI, Op2.sem, Bi.sem, okS, okB, En.px, List.getElem?_cons_zero, List.getElem?_cons_succ, List.set_cons_zero, List.set_cons_succ, List.map_cons, List.map_nil, List.cons_append, List.nil_append, List.append_nil, Bool.false_eq_true, if_true, if_false, reduceIte]
        rw [recT_lst e]
        refine ⟨rfl, ?_⟩
        refine letter_w hG (by omega) ?_
        rw [addS_str (by simp [Lt])]
        refine ⟨by rw [sizeLine_eq]; simp, ?_⟩
        rw [push_at e (by rw [List.length_map]; simp [dpP]; omega)]
        refine wSs_n (hkk _ _ ⟨_, _, _, pre_set p (Nat.le_refl _), ?_, rfl⟩)
        have : dpP (i + 1) = dpP i ++ [(.v (Zw i), dbl 4 1 (.v (Zw (i + 1))))] := by unfold dpP; rw [List.range_succ, List.map_append]; rfl
        rw [this, List.map_append, List.map_cons, List.map_nil]
        unfold pD
        rw [show dT (Tx.v (Zw i)) = .str ([90] ++ Lt i) from dT_v]
        exact set_self e
    · rintro τ h7 ⟨v7, v8, v9, p7, e7, rfl⟩
      have e7 : h7[h6.length]? = some (O.lst ((dpP 10).map pD)) := e7
      have R7 := R'.pre p7
      have dlen : (dpP 10).length = 10 := by simp [dpP]
      refine wSs_c ?_
      simp only [wS, wE, wEs, wPs, kysOf, D.ky, wO, wT, wI, Op2.sem, Bi.sem, okS, okB, En.px, List.getElem?_cons_zero, List.getElem?_cons_succ, List.set_cons_zero, List.set_cons_succ, List.map_cons, List.map_nil, List.cons_append, List.nil_append, List.append_nil, Bool.false_eq_true, if_true, if_false, reduceIte]
      refine ask_w hG z R7 e7 (by omega) (by omega) (by omega) dp_chk.1 fun P' dd h8 c8 M A K8 R8 => wG_n ?_
      simp only [List.set_cons_succ, List.set_cons_zero]
      rw [dlen] at R8
      obtain ⟨ks, mm, rfl, em, nd, mem⟩ := A.best M dp_best fun x hx => by
        obtain ⟨k, hk, rfl⟩ := dp_vs.1 hx
        rw [dpS_at hk, dbl1_size, size_v]; omega
      have e8 := K8.get e7 (by omega) (by omega)
      refine wSs_c ?_
      simp only [wS, wE, wEs, wPs, kysOf, D.ky, wO, wT, wI, Op2.sem, Bi.sem, okS, okB, En.px, List.getElem?_cons_zero, List.getElem?_cons_succ, List.set_cons_zero, List.set_cons_succ, List.map_cons, List.map_nil, List.cons_append, List.nil_append, List.append_nil, Bool.false_eq_true, if_true, if_false, reduceIte]
      rw [show D.str [90, 74] = .str (Zw 9) from rfl, ixS_word em ((mem _).2 (dp_vs.2 ⟨9, by decide, rfl⟩))]
      dsimp only
      rw [ixS_ref (asL_at e8) (atI_of (i := 9) (d := pD (.v (Zw 9), dbl 4 1 (.v (Zw 10)))) (by decide) (by
        rw [List.getElem?_map]
        unfold dpP
        rw [List.getElem?_map]; rfl))]
      dsimp only
      rw [show ixS h8 (pD (.v (Zw 9), dbl 4 1 (.v (Zw 10)))) (.int 1) = some (dT (dbl 4 1 (.v (Zw 10))), h8) from rfl]
      dsimp only
      rw [show dpS (Zw 9) = dbl 4 1 (.v (Zw 10)) from dpS_at (by decide), neS_dT (by rw [dbl1_size, size_v]; decide)]
      simp only [truD_b, Bool.false_eq_true, if_false]
      rw [lenS_dct em, kl_eq (n := 10) nd (fun a b e => Zw_inj e) fun x => by rw [mem, dp_vs]]
      dsimp only
      rw [show neS h8 (nD (10 + 1)) (.int 11) = some (.bl false, h8) from rfl]
      simp only [truD_b, Bool.false_eq_true, if_false]
      refine wSs_n (wSs_c ?_)
      simp only [wS, wE, wEs, wPs, kysOf, D.ky, wO, wT, wI, Op2.sem, Bi.sem, okS, okB, En.px, List.getElem?_cons_zero, List.getElem?_cons_succ, List.set_cons_zero, List.set_cons_succ, List.map_cons, List.map_nil, List.cons_append, List.nil_append, List.append_nil, Bool.false_eq_true, if_true, if_false, reduceIte]
      rw [slS_lst e8, cut_1 (by rw [List.length_map, dlen]; decide)]
      dsimp only
      repeat (refine ⟨by rw [sizeLine_eq]; simp, ?_⟩)
      rw [addS_ll (pre_at (pre_snoc (List.prefix_refl _)) new_at) new_at (by simp [dpP])]
      dsimp only
      have em2 : ((dpP 10).map pD).drop 1 ++ [D.tup [.str [90, 75], .str [90, 66]]] = dpC.map pD := by
        unfold dpC
        rw [List.map_append, List.map_drop, List.map_cons, List.map_nil]
        unfold pD
        rw [dT_v, dT_v]; rfl
      rw [em2]
      have p9 := pre_snoc (pre_snoc (pre_snoc (List.prefix_refl h8) (o := O.lst (((dpP 10).map pD).drop 1))) (o := O.lst [D.tup [.str [90, 75], .str [90, 66]]])) (o := O.lst (dpC.map pD))
      obtain ⟨s8, c8'⟩ := R8.lts
      have clen : dpC.length = 10 := by simp [dpC, dpP]
      refine ask_w hG z (R8.pre p9) new_at (by simp only [List.length_append, List.length_cons, List.length_nil]; omega) (by simp only [List.length_append, List.length_cons, List.length_nil]; omega) (by omega) dp_chk.2 fun P2 d2 h9 c9 M2 A2 K9 R9 => ?_
      rw [A2.none M2 dpC_none]
      rw [show isS h9 .non .non = some (.bl true, h9) from rfl]
      rw [clen] at R9
      exact q h9 _ c9 (by omega) R9
end
end Mi

set_option Elab.async false
set_option linter.all false
set_option maxRecDepth 100000
set_option maxHeartbeats 4000000
/-! great terms: pairs that cannot be the same; two that double -/
namespace Mi
open PySem PySem.Spec PyProof.Rows L2 Un
theorem dbl_ge {w : Nat} (hw : 1 ≤ w) {t : Tx} : ∀ k, t.size ≤ (dbl k w t).size
  | 0 => Nat.le_refl _
  | k + 1 => by
    have ih := dbl_ge hw (t := t) k
    unfold dbl
    rw [size_a, List.map_replicate, List.sum_replicate_nat]
    have := Nat.le_mul_of_pos_left (dbl k w t).size hw
    omega
def bads (m : Nat) : Uprs := [(Xv m, .a [102] [Xv 0]), (Xv m, .a [103] [Xv 0, Xv 16]), (.a [103] [Xv 0], .a [104] [Xv 0]), (Xv m, .a [103] [Xv 16, Xv 0]), (Xv 0, .a [103] [Xv 25, Xv 25])]
theorem bads_none {m : Nat} (hm : 1 ≤ m) {b : Tx × Tx} (hb : b ∈ bads m) : ¬ ∃ r, Unif r (chP m 2 ++ [b]) := by
  rintro ⟨r, hr⟩
  have hc : Unif r (chP m 2) := fun p hp => hr p (List.mem_append_left _ hp)
  have e := hr b (List.mem_append_right _ (List.mem_singleton_self _))
  have a0 := chP_any hc m 0 (by omega)
  have g := dbl_ge (w := 2) (by decide) (t := r (Lt m)) m
  rw [← a0] at g
  unfold bads at hb
  simp only [List.mem_cons, List.not_mem_nil, or_false] at hb
  rcases hb with rfl | rfl | rfl | rfl | rfl
  · dsimp only [Xv] at e
    rw [sub_v, sub_a, List.map_cons, List.map_nil, sub_v] at e
    rw [e, size_a] at g
    simp at g
    omega
  · dsimp only [Xv] at e
    rw [sub_v, sub_a, List.map_cons, List.map_cons, List.map_nil, sub_v, sub_v] at e
    rw [e, size_a] at g
    simp at g
    omega
  · dsimp only [Xv] at e
    rw [sub_a, sub_a] at e
    injection e with e1 _
    exact absurd e1 (by decide)
  · dsimp only [Xv] at e
    rw [sub_v, sub_a, List.map_cons, List.map_cons, List.map_nil, sub_v, sub_v] at e
    rw [e, size_a] at g
    simp at g
    omega
  · dsimp only [Xv] at e
    rw [sub_v, sub_a, a0] at e
    obtain ⟨k, rfl⟩ : ∃ k, m = k + 1 := ⟨m - 1, by omega⟩
    unfold dbl at e
    injection e with e1 _
    exact absurd e1 (by decide)
theorem bads_chk : ∀ m ∈ ([5, 9] : List Nat), ((bads m).all fun b => chk (chP m 2 ++ [b])) = true := by decide +kernel
def grP (m : Nat) : Uprs := chP m 2 ++ [(Xv m, at0 [97])]
theorem gr_chk : ∀ m ∈ ([5, 9] : List Nat), chk (grP m) = true := by decide +kernel
theorem gr_some (m : Nat) : ∃ r, Unif r (grP m) := by
  refine ⟨fun x => (chS m 2 x).sub fun _ => at0 [97], fun p hp => ?_⟩
  have hat : ∀ k, k ≤ m → (chS m 2 (Lt k)).sub (fun _ => at0 [97]) = dbl (m - k) 2 (at0 [97]) := fun k hk => by
    rw [chS_at hk, dbl_sub]
    unfold Xv
    rw [sub_v]
  rcases List.mem_append.mp hp with hp | hp
  · obtain ⟨k, hk, rfl⟩ := List.mem_map.mp hp
    have hk := List.mem_range.mp hk
    dsimp only [Xv]
    rw [sub_v, sub_a, List.map_replicate, sub_v]
    rw [hat k (by omega), hat (k + 1) (by omega), show m - k = (m - (k + 1)) + 1 from by omega]; rfl
  · rw [List.mem_singleton.mp hp]
    dsimp only [Xv]
    rw [sub_v]
    rw [hat m (Nat.le_refl _), Nat.sub_self]; rfl
theorem gr_big {m : Nat} (hm : m = 5 ∨ m = 9) {r : Wd → Tx} (h : Unif r (grP m)) : ∃ x, x ∈ Vs (grP m) ∧ 60 < (r x).size := by
  have hc : Unif r (chP m 2) := fun p hp => h p (List.mem_append_left _ hp)
  refine ⟨Lt 0, ?_, ?_⟩
  · have := (chP_vs (m := m) (w := 2) (by omega) (by decide)).2 ⟨0, Nat.zero_le _, rfl⟩
    unfold Vs at this ⊢
    unfold grP
    rw [List.flatMap_append]
    exact List.mem_append_left _ this
  · rw [chP_any hc m 0 (by omega)]
    have := dbl_big (w := 2) (t := r (Lt m)) m
    have e5 : sz 5 2 = 63 := by decide
    have e9 : sz 9 2 = 1023 := by decide
    rcases hm with rfl | rfl <;> omega
/-! ### two that double -/
def fe : Tx := .a [102] [Xv 4, Xv 4]
def ff : Tx := .a [102] [fe, fe]
def dP1 : Uprs := [(Xv 0, .a [102] [Xv 1, Xv 1]), (Xv 2, .a [102] [Xv 3, Xv 3]), (Xv 0, Xv 2)]
def dP2 : Uprs := [(Xv 1, .a [102] [Xv 4, Xv 4]), (Xv 3, .a [102] [Xv 6, Xv 6])]
def dP : Uprs := dP1 ++ dP2
def dS (x : Wd) : Tx := if x = Lt 0 ∨ x = Lt 2 then ff else if x = Lt 1 ∨ x = Lt 3 then fe else if x = Lt 4 ∨ x = Lt 6 then Xv 4 else .v x
def dVs : List Wd := [Lt 0, Lt 1, Lt 2, Lt 3, Lt 4, Lt 6]
theorem dP_vs {x : Wd} : x ∈ Vs dP ↔ x ∈ dVs := by
  have a : ∀ y ∈ Vs dP, y ∈ dVs := by decide +kernel
  have b : ∀ y ∈ dVs, y ∈ Vs dP := by decide +kernel
  exact ⟨a x, b x⟩
theorem dP_chk : chk dP = true := by decide +kernel
theorem dVs_ind {Q : Wd → Prop} (h0 : Q (Lt 0)) (h1 : Q (Lt 1)) (h2 : Q (Lt 2)) (h3 : Q (Lt 3)) (h4 : Q (Lt 4)) (h6 : Q (Lt 6)) : ∀ x, x ∈ Vs dP → Q x := fun x hx => by
  have := dP_vs.1 hx
  unfold dVs at this
  simp only [List.mem_cons, List.not_mem_nil, or_false] at this
  rcases this with rfl | rfl | rfl | rfl | rfl | rfl <;> assumption
theorem dS0 : dS (Lt 0) = ff := rfl
theorem dS1 : dS (Lt 1) = fe := rfl
theorem dS2 : dS (Lt 2) = ff := rfl
theorem dS3 : dS (Lt 3) = fe := rfl
theorem dS4 : dS (Lt 4) = Xv 4 := rfl
theorem dS6 : dS (Lt 6) = Xv 4 := rfl
theorem fe_sub {r : Wd → Tx} : fe.sub r = .a [102] [r (Lt 4), r (Lt 4)] := by
  unfold fe Xv
  rw [sub_a, List.map_cons, List.map_cons, List.map_nil, sub_v]
theorem ff_sub {r : Wd → Tx} : ff.sub r = .a [102] [fe.sub r, fe.sub r] := by
  unfold ff
  rw [sub_a, List.map_cons, List.map_cons, List.map_nil]
theorem xv_sub {r : Wd → Tx} {k : Nat} : (Xv k).sub r = r (Lt k) := by unfold Xv; rw [sub_v]
theorem f2_sub {r : Wd → Tx} {k : Nat} : (Tx.a [102] [Xv k, Xv k]).sub r = .a [102] [r (Lt k), r (Lt k)] := by rw [sub_a, List.map_cons, List.map_cons, List.map_nil, xv_sub]
theorem dP_best : Best dS dP where
  sol := fun p hp => by
    unfold dP dP1 dP2 at hp
    simp only [List.cons_append, List.nil_append, List.mem_cons, List.not_mem_nil, or_false] at hp
    rcases hp with rfl | rfl | rfl | rfl | rfl
    · dsimp only; rw [xv_sub, f2_sub, dS0, dS1]; rfl
    · dsimp only; rw [xv_sub, f2_sub, dS2, dS3]; rfl
    · dsimp only; rw [xv_sub, xv_sub, dS0, dS2]
    · dsimp only; rw [xv_sub, f2_sub, dS1, dS4]; rfl
    · dsimp only; rw [xv_sub, f2_sub, dS3, dS6]; rfl
  most := fun r hr => by
    have m : ∀ p, p ∈ dP → p.1.sub r = p.2.sub r := hr
    have e1 := m (Xv 0, .a [102] [Xv 1, Xv 1]) (by simp [dP, dP1])
    have e2 := m (Xv 2, .a [102] [Xv 3, Xv 3]) (by simp [dP, dP1])
    have e3 := m (Xv 0, Xv 2) (by simp [dP, dP1])
    have e4 := m (Xv 1, .a [102] [Xv 4, Xv 4]) (by simp [dP, dP2])
    have e5 := m (Xv 3, .a [102] [Xv 6, Xv 6]) (by simp [dP, dP2])
    dsimp only at e1 e2 e3 e4 e5
    rw [xv_sub, f2_sub] at e1 e2 e4 e5
    rw [xv_sub, xv_sub] at e3
    have b : r (Lt 1) = r (Lt 3) := by
      rw [e1, e2] at e3
      injection e3 with _ e3
      injection e3
    have g : r (Lt 4) = r (Lt 6) := by
      rw [e4, e5] at b
      injection b with _ b
      injection b
    refine dVs_ind ?_ ?_ ?_ ?_ ?_ ?_
    · rw [dS0, ff_sub, fe_sub, e1, e4]
    · rw [dS1, fe_sub, e4]
    · rw [dS2, ff_sub, fe_sub, ← e3, e1, e4]
    · rw [dS3, fe_sub, ← b, e4]
    · rw [dS4, xv_sub]
    · rw [dS6, xv_sub, g]
  idem := by
    refine dVs_ind ?_ ?_ ?_ ?_ ?_ ?_
    · rw [dS0, ff_sub, fe_sub, dS4]; rfl
    · rw [dS1, fe_sub, dS4]; rfl
    · rw [dS2, ff_sub, fe_sub, dS4]; rfl
    · rw [dS3, fe_sub, dS4]; rfl
    · rw [dS4, xv_sub, dS4]
    · rw [dS6, xv_sub, dS4]
  inn := by
    have a : ∀ y ∈ ff.vars ++ (fe.vars ++ (Xv 4).vars), y ∈ Vs dP := by decide +kernel
    refine dVs_ind ?_ ?_ ?_ ?_ ?_ ?_
    · exact fun y hy => a y (List.mem_append_left _ hy)
    · exact fun y hy => a y (List.mem_append_right _ (List.mem_append_left _ hy))
    · exact fun y hy => a y (List.mem_append_left _ hy)
    · exact fun y hy => a y (List.mem_append_right _ (List.mem_append_left _ hy))
    · exact fun y hy => a y (List.mem_append_right _ (List.mem_append_right _ hy))
    · exact fun y hy => a y (List.mem_append_right _ (List.mem_append_right _ hy))
  least := by
    have z4 : Lt 4 ∈ Vs dP := by decide +kernel
    have key : ∀ x, x ∈ Vs dP → ∀ z, dS x = .v z → z = Lt 4 ∧ Lt 4 ≤ x := by
      refine dVs_ind ?_ ?_ ?_ ?_ ?_ ?_
      · intro z e; rw [dS0] at e; cases e
      · intro z e; rw [dS1] at e; cases e
      · intro z e; rw [dS2] at e; cases e
      · intro z e; rw [dS3] at e; cases e
      · intro z e; rw [dS4] at e; cases e; exact ⟨rfl, List.le_refl _⟩
      · intro z e; rw [dS6] at e; cases e; exact ⟨rfl, by decide⟩
    intro x hx y hy z ex ey
    obtain ⟨rfl, _⟩ := key x hx z ex
    exact ⟨z4, dS4, (key y hy _ ey).2⟩
theorem eqKs_all {h : Hh} {ls : List (Ky × D)} : ∀ {l : List (Ky × D)}, (∀ p ∈ l, ∃ e, getKd ls p.1 = some e ∧ eqV h 190 p.2 e = some true) → eqKs h ls l = some true
  | [], _ => rfl
  | (k, d) :: l, H => by
    obtain ⟨e, e1, e2⟩ := H (k, d) List.mem_cons_self
    unfold eqKs
    rw [e1]
    dsimp only
    rw [e2, eqKs_all fun p hp => H p (List.mem_cons_of_mem _ hp)]; rfl
end Mi

set_option Elab.async false
set_option linter.all false
set_option maxRecDepth 100000
set_option maxHeartbeats 4000000
/-! great terms: the law -/
namespace Mi
open PySem PySem.Spec PyProof.Rows L2 Un
theorem dT0 {k : Nat} : dT (Xv k) = .str (Lt k) := dT_v
def dLit : List (Ky × D) := mergeKd [] [(Ky.s [65], dT ff), (Ky.s [66], dT fe), (Ky.s [67], dT ff), (Ky.s [68], dT fe), (Ky.s [69], D.str [69]), (Ky.s [71], D.str [69])]
def bad14 : Ss := (.cons (.ite (.op .isnt (.call 25 (.cons (.call 29 (.cons (.v 1) (.cons (.op .add (.v 4) (.lst (.cons (.v 7) .nil))) .nil))) .nil)) (.k .non)) (.cons (.ret (.k (.bl false)))
  .nil) .nil)
  .nil)
section
variable {Z : Zi} {B : List Fd} (hG : HasG B) (z : Z06 Z)
include hG z
theorem law06_w {j : Nat} (ns : List Int) : WPc Z B (j + 17) 34 [.ref 0] [.fro (ns.map D.int)] (fun d _ => d = .bl true) (fun _ _ _ => False) := by
  unfold WPc
  rw [hG.2.2.2.2.2.2.2.2.2.2.2.2]
  refine ⟨rfl, ?_⟩
  show wSs Z _ G6.b34.body _ [some (.ref 0), none, none, none, none, none, none, none, none, none, none] [.fro (ns.map D.int)]
  unfold G6.b34
  refine wSs_c ?_
  simp only [wS, wE, wEs, wPs, kysOf, D.ky, wO, wT, wI, Op2.sem, Bi.sem, okS, okB, En.px, List.getElem?_cons_zero, List.getElem?_cons_succ, List.set_cons_zero, List.set_cons_succ, List.map_cons, List.map_nil, List.cons_append, List.nil_append, List.append_nil, Bool.false_eq_true, if_true, if_false, reduceIte]
  refine source_w hG.2.1 (ns := ns) rfl fun s c cells h1 R1 p1 => wG_n ?_
  simp only [List.set_cons_succ, List.set_cons_zero]
  -- the chains
  refine wSs_c ?_
  simp only [wS, lk_r2]
  simp only [wS, wE, wEs, wPs, kysOf, D.ky, wO, wT, wI, Op2.sem, Bi.sem, okS, okB, En.px, List.getElem?_cons_zero, List.getElem?_cons_succ, List.set_cons_zero, List.set_cons_succ, List.map_cons, List.map_nil, List.cons_append, List.nil_append, List.append_nil, Bool.false_eq_true, if_true, if_false, reduceIte]
  refine ⟨by decide, ?_⟩
  rw [show rangeD 1 (Int.toNat (11 - 1)) = (List.range 10).map (fun i => nD (i + 1)) from by rfl]
  refine wItems_inv (fun i τ h' => ∃ (t' : Int) (cells' : List Int) (v2 v3 : Option D), Src h' s c t' cells' ∧ t' ≤ 80 * (i : Int) ∧ τ = [some (.ref 0), some (.ref s), v2, v3, none, none, none, none, none, none, none]) (fun _ _ _ _ => trivial) ?_ ?_ ⟨0, cells, _, _, R1, by omega, rfl⟩
  · rintro i d τ h' kk ed ⟨t', cells', v2, v3, R', tl, rfl⟩ hkk
    rw [List.getElem?_map] at ed
    obtain ⟨i', ei, rfl⟩ := Option.map_eq_some_iff.mp ed
    have hi : i < 10 := by simpa using (List.getElem?_eq_some_iff.mp ei).1
    rw [List.getElem?_range hi] at ei
    cases ei
    refine wG_n ?_
    simp only [List.set_cons_succ, List.set_cons_zero]
    refine wSs_c ?_
    simp only [wS, lk_of']
    simp only [wS, wE, wEs, wPs, kysOf, D.ky, wO, wT, wI, Op2.sem, Bi.sem, okS, okB, En.px, List.getElem?_cons_zero, List.getElem?_cons_succ, List.set_cons_zero, List.set_cons_succ, List.map_cons, List.map_nil, List.cons_append, List.nil_append, List.append_nil, Bool.false_eq_true, if_true, if_false, reduceIte]
    refine ⟨by rw [sizeLine_eq]; simp, ?_⟩
    dsimp only [srcD]
    rw [asL_at new_at]
    dsimp only
    have p2 := pre_snoc (List.prefix_refl h') (o := O.lst [D.int 1, .int 2, .int 3, .int 4])
    have e2 : (h' ++ [O.lst [D.int 1, .int 2, .int 3, .int 4]])[h'.length]? = some (O.lst [D.int 1, .int 2, .int 3, .int 4]) := new_at
    obtain ⟨s1, c1⟩ := R'.lts
    have R2 := R'.pre p2
    revert e2 R2
    generalize h' ++ [O.lst [D.int 1, .int 2, .int 3, .int 4]] = h2
    intro e2 R2
    refine wItems_inv (fun k τ h3 => ∃ (t3 : Int) (c3 : List Int) (v3 : Option D), Src h3 s c t3 c3 ∧ t3 ≤ 80 * (i : Int) + 20 * (k : Int) ∧ Kp s c h2 h3 ∧ τ = [some (.ref 0), some (.ref s), some (nD (i + 1)), v3, none, none, none, none, none, none, none]) (fun k τ h3 ⟨_, _, _, _, _, K, _⟩ => asL_at (K.get e2 (by omega) (by omega))) ?_ ?_ ⟨t', cells', _, R2, by omega, Kp.refl _, rfl⟩
    · rintro k d τ h3 kk2 ed2 ⟨t3, c3, v3, R3, tl3, K3, rfl⟩ hkk2
      obtain ⟨w, rfl, hw1, hw2⟩ : ∃ w : Nat, d = nD w ∧ 1 ≤ w ∧ w ≤ 4 := by
        match k, ed2 with
        | 0, ed2 => cases ed2; exact ⟨1, rfl, by decide, by decide⟩
        | 1, ed2 => cases ed2; exact ⟨2, rfl, by decide, by decide⟩
        | 2, ed2 => cases ed2; exact ⟨3, rfl, by decide, by decide⟩
        | 3, ed2 => cases ed2; exact ⟨4, rfl, by decide, by decide⟩
        | k + 4, ed2 => simp at ed2
      have hk : k < 4 := by simpa using (List.getElem?_eq_some_iff.mp ed2).1
      refine wG_n ?_
      simp only [List.set_cons_succ, List.set_cons_zero]
      refine wSs_c ?_
      simp only [wS, wE, wEs, wPs, kysOf, D.ky, wO, wT, wI, Op2.sem, Bi.sem, okS, okB, En.px, List.getElem?_cons_zero, List.getElem?_cons_succ, List.set_cons_zero, List.set_cons_succ, List.map_cons, List.map_nil, List.cons_append, List.nil_append, List.append_nil, Bool.false_eq_true, if_true, if_false, reduceIte]
      refine fits_w hG z (m := i + 1) (by omega) (by omega) hw1 hw2 R3 (by omega) fun h4 c4 K4 R4 => ?_
      simp only [truD_b, Bool.not_true, Bool.false_eq_true, if_false]
      exact wSs_n (wSs_n (Z := Z) (C := WPc Z B (j + 16)) (hkk2 _ _ ⟨_, c4, _, R4, by omega, K3.trans K4, rfl⟩))
    · rintro τ h3 ⟨t3, c3, v3, R3, tl3, K3, rfl⟩
      have tl3 : t3 ≤ 80 * (i : Int) + 80 := tl3
      exact wSs_n (hkk _ _ ⟨t3, c3, _, _, R3, by omega, rfl⟩)
  · rintro τ h2 ⟨t2, c2, v2, v3, R2, tl, rfl⟩
    have tl : t2 ≤ 800 := tl
    -- what cannot be
    refine wSs_c ?_
    simp only [wS, lk_of']
    simp only [wS, wE, wEs, wPs, kysOf, D.ky, wO, wT, wI, Op2.sem, Bi.sem, okS, okB, En.px, List.getElem?_cons_zero, List.getElem?_cons_succ, List.set_cons_zero, List.set_cons_succ, List.map_cons, List.map_nil, List.cons_append, List.nil_append, List.append_nil, Bool.false_eq_true, if_true, if_false, reduceIte]
    refine ⟨by rw [sizeLine_eq]; simp, ?_⟩
    dsimp only [srcD]
    rw [asL_at new_at]
    dsimp only
    have p3 := pre_snoc (List.prefix_refl h2) (o := O.lst [D.int 5, .int 9])
    have e3 : (h2 ++ [O.lst [D.int 5, .int 9]])[h2.length]? = some (O.lst [D.int 5, .int 9]) := new_at
    obtain ⟨s2, c2'⟩ := R2.lts
    have R3 := R2.pre p3
    revert e3 R3
    generalize h2 ++ [O.lst [D.int 5, .int 9]] = h3
    intro e3 R3
    refine wItems_inv (fun i τ h' => ∃ (t' : Int) (cells' : List Int) (v2 v4 v5 v6 v7 : Option D), Src h' s c t' cells' ∧ t' ≤ 800 + 200 * (i : Int) ∧ Kp s c h3 h' ∧ τ = [some (.ref 0), some (.ref s), v2, v3, v4, v5, v6, v7, none, none, none]) (fun i τ h' ⟨_, _, _, _, _, _, _, _, _, K, _⟩ => asL_at (K.get e3 (by omega) (by omega))) ?_ ?_ ⟨t2, c2, _, _, _, _, _, R3, by omega, Kp.refl _, rfl⟩
    · rintro i d τ h' kk ed ⟨t', cells', v2, v4, v5, v6, v7, R', tl', K, rfl⟩ hkk
      obtain ⟨m, rfl, hm⟩ : ∃ m : Nat, d = nD m ∧ (m = 5 ∨ m = 9) := by
        match i, ed with
        | 0, ed => cases ed; exact ⟨5, rfl, .inl rfl⟩
        | 1, ed => cases ed; exact ⟨9, rfl, .inr rfl⟩
        | i + 2, ed => simp at ed
      have hi : i < 2 := by simpa using (List.getElem?_eq_some_iff.mp ed).1
      have hml : m ∈ ([5, 9] : List Nat) := by rcases hm with rfl | rfl <;> decide
      have cle : (chP m 2).length = m := by simp [chP]
      refine wG_n ?_
      simp only [List.set_cons_succ, List.set_cons_zero]
      refine wSs_c ?_
      simp only [wS, wE, wEs, wPs, kysOf, D.ky, wO, wT, wI, Op2.sem, Bi.sem, okS, okB, En.px, List.getElem?_cons_zero, List.getElem?_cons_succ, List.set_cons_zero, List.set_cons_succ, List.map_cons, List.map_nil, List.cons_append, List.nil_append, List.append_nil, Bool.false_eq_true, if_true, if_false, reduceIte]
      refine chain_w hG (w := 2) (by omega) (by decide) fun h4 p4 e4 => wG_n ?_
      simp only [List.set_cons_succ, List.set_cons_zero]
      refine wSs_c ?_
      simp only [wS, wE, wEs, wPs, kysOf, D.ky, wO, wT, wI, Op2.sem, Bi.sem, okS, okB, En.px, List.getElem?_cons_zero, List.getElem?_cons_succ, List.set_cons_zero, List.set_cons_succ, List.map_cons, List.map_nil, List.cons_append, List.nil_append, List.append_nil, Bool.false_eq_true, if_true, if_false, reduceIte]
      refine letter_w hG (by omega) (wG_n ?_)
      simp only [List.set_cons_succ, List.set_cons_zero]
      refine wSs_c ?_
      simp only [wS, wE, wEs, wPs, kysOf, D.ky, wO, wT, wI, Op2.sem, Bi.sem, okS, okB, En.px, List.getElem?_cons_zero, List.getElem?_cons_succ, List.set_cons_zero, List.set_cons_succ, List.map_cons, List.map_nil, List.cons_append, List.nil_append, List.append_nil, Bool.false_eq_true, if_true, if_false, reduceIte]
      repeat (refine ⟨by rw [sizeLine_eq]; simp, ?_⟩)
      refine wG_n ?_
      simp only [List.set_cons_succ, List.set_cons_zero]
      refine wSs_c ?_
      simp only [wS, wE, wEs, wPs, kysOf, D.ky, wO, wT, wI, Op2.sem, Bi.sem, okS, okB, En.px, List.getElem?_cons_zero, List.getElem?_cons_succ, List.set_cons_zero, List.set_cons_succ, List.map_cons, List.map_nil, List.cons_append, List.nil_append, List.append_nil, Bool.false_eq_true, if_true, if_false, reduceIte]
      rw [recT_lst new_at]
      refine ⟨rfl, ?_⟩
      repeat (refine ⟨by rw [sizeLine_eq]; simp, ?_⟩)
      rw [push_at new_at (by simp), set_new]
      refine wSs_c ?_
      simp only [wS, lk_of']
      simp only [wS, wE, wEs, wPs, kysOf, D.ky, wO, wT, wI, Op2.sem, Bi.sem, okS, okB, En.px, List.getElem?_cons_zero, List.getElem?_cons_succ, List.set_cons_zero, List.set_cons_succ, List.map_cons, List.map_nil, List.cons_append, List.nil_append, List.append_nil, Bool.false_eq_true, if_true, if_false, reduceIte]
      repeat (refine ⟨by rw [sizeLine_eq]; simp, ?_⟩)
      rw [addS_ll (pre_at (pre_snoc (List.prefix_refl _)) new_at) new_at (by simp)]
      dsimp only [srcD]
      rw [asL_at new_at]
      dsimp only
      simp only [List.cons_append, List.nil_append]
      rw [show [D.tup [.str (Lt m), .tup [.str [102], .tup [.str [65]]]], .tup [.str (Lt m), .tup [.str [103], .tup [.str [65], .str [81]]]], .tup [.tup [.str [103], .tup [.str [65]]], .tup [.str [104], .tup [.str [65]]]], .tup [.str (Lt m), .tup [.str [103], .tup [.str [81], .str [65]]]], .tup [.str [65], .tup [.str [103], .tup [.str [90], .str [90]]]]] = (bads m).map pD from by
        unfold bads pD
        simp only [List.map_cons, List.map_nil, dT_a, dT0]
        rfl]
      generalize hX : h4 ++ [O.lst [D.tup [D.str (Lt m), D.tup [D.str [102], D.tup [D.str [65]]]], D.tup [D.str (Lt m), D.tup [D.str [103], D.tup [D.str [65], D.str [81]]]], D.tup [D.tup [D.str [103], D.tup [D.str [65]]], D.tup [D.str [104], D.tup [D.str [65]]]], D.tup [D.str (Lt m), D.tup [D.str [103], D.tup [D.str [81], D.str [65]]]]]] ++ [O.lst [D.tup [D.str [65], D.tup [D.str [103], D.tup [D.str [90], D.str [90]]]]]] = X
      have pX : h4 <+: X := by rw [← hX]; exact pre_snoc (pre_snoc (List.prefix_refl _))
      clear hX
      have p9 := pre_snoc pX (o := O.lst ((bads m).map pD))
      have e9 : (X ++ [O.lst ((bads m).map pD)])[X.length]? = some (O.lst ((bads m).map pD)) := new_at
      have lX : h4.length ≤ X.length := pre_len pX
      have l4 : h'.length ≤ h4.length := pre_len p4
      obtain ⟨s', c''⟩ := R'.lts
      have R9 := R'.pre (p4.trans p9)
      have e49 := pre_at p9 e4
      have K9 : Kp s c h' (X ++ [O.lst ((bads m).map pD)]) := Kp.pre (p4.trans p9)
      revert e9 R9 e49 K9
      generalize X ++ [O.lst ((bads m).map pD)] = h9
      intro e9 R9 e49 K9
      refine wItems_inv (fun k τ hh => ∃ (t9 : Int) (c9 : List Int) (v7 : Option D), Src hh s c t9 c9 ∧ t9 ≤ t' + 22 * (k : Int) ∧ Kp s c h9 hh ∧ τ = [some (.ref 0), some (.ref s), some (nD m), v3, some (.ref h'.length), some (.str (Lt m)), some (.ref h4.length), v7, none, none, none]) (fun k τ hh ⟨_, _, _, _, _, K, _⟩ => asL_at (K.get e9 (by omega) (by omega))) ?_ ?_ ⟨t', cells', _, R9, by omega, Kp.refl _, rfl⟩
      · rintro k d τ hh kk2 ed2 ⟨t9, c9, v7, Rh, tlh, Kh, rfl⟩ hkk2
        rw [List.getElem?_map] at ed2
        obtain ⟨b, eb, rfl⟩ := Option.map_eq_some_iff.mp ed2
        have hb := List.mem_of_getElem? eb
        have hk : k < 5 := (List.getElem?_eq_some_iff.mp eb).1
        refine wG_n ?_
        simp only [List.set_cons_succ, List.set_cons_zero]
        have ec := Kh.get e49 (by omega) (by omega)
        obtain ⟨sh, ch⟩ := Rh.lts
        refine wSs_c ?_
        simp only [wS, wE, wEs, wPs, kysOf, D.ky, wO, wT, wI, Op2.sem, Bi.sem, okS, okB, En.px, List.getElem?_cons_zero, List.getElem?_cons_succ, List.set_cons_zero, List.set_cons_succ, List.map_cons, List.map_nil, List.cons_append, List.nil_append, List.append_nil, Bool.false_eq_true, if_true, if_false, reduceIte]
        refine ⟨by rw [sizeLine_eq]; simp, ?_⟩
        rw [addS_ll (pre_at (pre_snoc (List.prefix_refl _)) ec) new_at (by simp [cle]; omega)]
        dsimp only
        rw [show (chP m 2).map pD ++ [pD b] = (chP m 2 ++ [b]).map pD from by rw [List.map_append]; rfl]
        have pp := pre_snoc (pre_snoc (List.prefix_refl hh) (o := O.lst [pD b])) (o := O.lst ((chP m 2 ++ [b]).map pD))
        refine ask_w hG z (Rh.pre pp) new_at (by simp only [List.length_append, List.length_cons, List.length_nil]; omega) (by simp only [List.length_append, List.length_cons, List.length_nil]; omega) (by omega) (List.all_eq_true.mp (bads_chk m hml) b hb) fun P' dd hq cq M A Kq Rq => ?_
        rw [A.none M (bads_none (by omega) hb)]
        rw [show isntS hq .non .non = some (.bl false, hq) from rfl]
        simp only [truD_b, Bool.false_eq_true, if_false]
        rw [List.length_append, cle] at Rq
        simp only [List.length_cons, List.length_nil] at Rq
        exact wSs_n (wSs_n (Z := Z) (C := WPc Z B (j + 16)) (hkk2 _ _ ⟨_, cq, _, Rq, by omega, (Kh.trans (Kp.pre pp)).trans Kq, rfl⟩))
      · rintro τ hh ⟨t9, c9, v7, Rh, tlh, Kh, rfl⟩
        have tlh : t9 ≤ t' + 110 := tlh
        have ec := Kh.get e49 (by omega) (by omega)
        obtain ⟨sh, ch⟩ := Rh.lts
        refine wSs_c ?_
        simp only [wS, wE, wEs, wPs, kysOf, D.ky, wO, wT, wI, Op2.sem, Bi.sem, okS, okB, En.px, List.getElem?_cons_zero, List.getElem?_cons_succ, List.set_cons_zero, List.set_cons_succ, List.map_cons, List.map_nil, List.cons_append, List.nil_append, List.append_nil, Bool.false_eq_true, if_true, if_false, reduceIte]
        repeat (refine ⟨by rw [sizeLine_eq]; simp, ?_⟩)
        rw [addS_ll (pre_at (pre_snoc (List.prefix_refl _)) ec) new_at (by simp [cle]; omega)]
        dsimp only
        rw [show (chP m 2).map pD ++ [D.tup [.str (Lt m), .tup [.str [97], .tup []]]] = (grP m).map pD from by
          unfold grP
          rw [List.map_append]
          unfold pD at0
          simp only [List.map_cons, List.map_nil, dT_a, dT0]]
        have pp := pre_snoc (pre_snoc (List.prefix_refl hh) (o := O.lst [D.tup [.str (Lt m), .tup [.str [97], .tup []]]])) (o := O.lst ((grP m).map pD))
        refine ask_w hG z (Rh.pre pp) new_at (by simp only [List.length_append, List.length_cons, List.length_nil]; omega) (by simp only [List.length_append, List.length_cons, List.length_nil]; omega) (by omega) (gr_chk m hml) fun P' dd hq cq M A Kq Rq => ?_
        rw [A.great M (gr_some m) fun r hr => gr_big hm hr]
        rw [show neS hq (.str many) (.str [109, 97, 110, 121]) = some (.bl false, hq) from rfl]
        simp only [truD_b, Bool.false_eq_true, if_false]
        have gl : (grP m).length = m + 1 := by unfold grP; rw [List.length_append, cle]; rfl
        rw [gl] at Rq
        exact wSs_n (wSs_n (Z := Z) (C := WPc Z B (j + 16)) (hkk _ _ ⟨_, cq, _, _, _, _, _, Rq, by omega, (K.trans K9).trans ((Kh.trans (Kp.pre pp)).trans Kq), rfl⟩))
    · rintro τ h4 ⟨t4, c4, v2, v4, v5, v6, v7, R4, tl4, K4, rfl⟩
      have tl4 : t4 ≤ 1200 := tl4
      refine wSs_c ?_
      simp only [wS, wE, wEs, wPs, kysOf, D.ky, wO, wT, wI, Op2.sem, Bi.sem, okS, okB, En.px, List.getElem?_cons_zero, List.getElem?_cons_succ, List.set_cons_zero, List.set_cons_succ, List.map_cons, List.map_nil, List.cons_append, List.nil_append, List.append_nil, Bool.false_eq_true, if_true, if_false, reduceIte]
      refine long_w hG z R4 (by omega) fun h5 t5 c5 tl5 R5 => ?_
      simp only [truD_b, Bool.not_true, Bool.false_eq_true, if_false]
      obtain ⟨s5, c5'⟩ := R5.lts
      refine wSs_n (wSs_c ?_)
      simp only [wS, wE, wEs, wPs, kysOf, D.ky, wO, wT, wI, Op2.sem, Bi.sem, okS, okB, En.px, List.getElem?_cons_zero, List.getElem?_cons_succ, List.set_cons_zero, List.set_cons_succ, List.map_cons, List.map_nil, List.cons_append, List.nil_append, List.append_nil, Bool.false_eq_true, if_true, if_false, reduceIte]
      iterate 8 (refine ⟨by rw [sizeLine_eq]; simp, ?_⟩)
      refine wG_n ?_
      simp only [List.set_cons_succ, List.set_cons_zero]
      refine wSs_c ?_
      simp only [wS, wE, wEs, wPs, kysOf, D.ky, wO, wT, wI, Op2.sem, Bi.sem, okS, okB, En.px, List.getElem?_cons_zero, List.getElem?_cons_succ, List.set_cons_zero, List.set_cons_succ, List.map_cons, List.map_nil, List.cons_append, List.nil_append, List.append_nil, Bool.false_eq_true, if_true, if_false, reduceIte]
      repeat (refine ⟨by rw [sizeLine_eq]; simp, ?_⟩)
      rw [addS_ll (pre_at (pre_snoc (List.prefix_refl _)) new_at) new_at (by simp)]
      refine wG_n ?_
      simp only [List.set_cons_succ, List.set_cons_zero, List.cons_append, List.nil_append]
      rw [show [D.tup [.str [65], .tup [.str [102], .tup [.str [66], .str [66]]]], .tup [.str [67], .tup [.str [102], .tup [.str [68], .str [68]]]], .tup [.str [65], .str [67]], .tup [.str [66], .tup [.str [102], .tup [.str [69], .str [69]]]], .tup [.str [68], .tup [.str [102], .tup [.str [71], .str [71]]]]] = dP.map pD from by
        unfold dP dP1 dP2 pD
        simp only [List.cons_append, List.nil_append, List.map_cons, List.map_nil, dT_a, dT0]
        rfl]
      refine wSs_c ?_
      simp only [wS, wE, wEs, wPs, kysOf, D.ky, wO, wT, wI, Op2.sem, Bi.sem, okS, okB, En.px, List.getElem?_cons_zero, List.getElem?_cons_succ, List.set_cons_zero, List.set_cons_succ, List.map_cons, List.map_nil, List.cons_append, List.nil_append, List.append_nil, Bool.false_eq_true, if_true, if_false, reduceIte]
      refine ask_w hG z (R5.pre (pre_snoc (pre_snoc (pre_snoc (List.prefix_refl _))))) new_at (by simp only [List.length_append, List.length_cons, List.length_nil]; omega) (by simp only [List.length_append, List.length_cons, List.length_nil]; omega) (by omega) dP_chk fun P' dd h6 c6 M A K6 R6 => wG_n ?_
      simp only [List.set_cons_succ, List.set_cons_zero]
      obtain ⟨ks, mm, rfl, em, nd, mem⟩ := A.best M dP_best (by
        refine dVs_ind ?_ ?_ ?_ ?_ ?_ ?_ <;> decide +kernel)
      refine wSs_c ?_
      simp only [wS, wE, wEs, wPs, kysOf, D.ky, wO, wT, wI, Op2.sem, Bi.sem, okS, okB, En.px, List.getElem?_cons_zero, List.getElem?_cons_succ, List.set_cons_zero, List.set_cons_succ, List.map_cons, List.map_nil, List.cons_append, List.nil_append, List.append_nil, Bool.false_eq_true, if_true, if_false, reduceIte]
      iterate 6 (refine ⟨by rw [sizeLine_eq]; simp, ?_⟩)
      refine wG_n ?_
      simp only [List.set_cons_succ, List.set_cons_zero]
      refine wSs_c ?_
      simp only [wS, wE, wEs, wPs, kysOf, D.ky, wO, wT, wI, Op2.sem, Bi.sem, okS, okB, En.px, List.getElem?_cons_zero, List.getElem?_cons_succ, List.set_cons_zero, List.set_cons_succ, List.map_cons, List.map_nil, List.cons_append, List.nil_append, List.append_nil, Bool.false_eq_true, if_true, if_false, reduceIte]
      have eff : D.tup [D.str [102], D.tup [D.tup [D.str [102], D.tup [D.str [69], D.str [69]]], D.tup [D.str [102], D.tup [D.str [69], D.str [69]]]]] = dT ff := by
        unfold ff fe
        simp only [dT_a, List.map_cons, List.map_nil, dT0]
        rfl
      rw [eff]
      have x1 : ∀ hh, ixS hh (dT ff) (.int 1) = some (.tup [dT fe, dT fe], hh) := fun hh => ix1_dT
      rw [x1]
      dsimp only
      have x2 : ∀ hh, ixS hh (.tup [dT fe, dT fe]) (.int 0) = some (dT fe, hh) := fun hh => rfl
      rw [x2]
      dsimp only
      rw [x1]
      dsimp only
      rw [x2]
      refine ⟨by simp, new_at, ?_⟩
      rw [set_new, show mergeKd [] [(Ky.s [65], dT ff), (Ky.s [66], dT fe), (Ky.s [67], dT ff), (Ky.s [68], dT fe), (Ky.s [69], D.str [69]), (Ky.s [71], D.str [69])] = dLit from rfl]
      have cm := pre_at (pre_snoc (List.prefix_refl h6) (o := O.dct false dLit)) em
      have cn : (h6 ++ [O.dct false dLit])[h6.length]? = some (O.dct false dLit) := new_at
      revert cm cn
      generalize h6 ++ [O.dct false dLit] = h7
      intro cm cn
      have kl : ks.length = 6 := by
        have l1 := nodup_len nd fun x hx => dP_vs.1 ((mem x).1 hx)
        have l2 := nodup_len (l := dVs) (m := ks) (by decide) fun x hx => (mem x).2 (dP_vs.2 hx)
        have : dVs.length = 6 := rfl
        omega
      have fin : eqS h7 (.ref mm) (.ref h6.length) = some (.bl true, h7) := by
        unfold eqS eqTop
        rw [show asK h7 (.ref mm) = some (sK ks fun x => dT (dS x)) from by simp only [asK, cm], show asK h7 (.ref h6.length) = some dLit from by simp only [asK, cn]]
        dsimp only
        rw [if_pos (by rw [sK_len, kl]; rfl), eqKs_all fun p hp => ?_]
        · rfl
        · obtain ⟨x, hx, rfl⟩ := List.mem_map.mp hp
          dsimp only
          revert x
          have : ∀ x, x ∈ Vs dP → ∃ e, getKd dLit (Ky.s x) = some e ∧ eqV h7 190 (dT (dS x)) e = some true := by
            refine dVs_ind ?_ ?_ ?_ ?_ ?_ ?_
            · exact ⟨dT ff, rfl, eqV_dT ff 190 (by decide +kernel)⟩
            · exact ⟨dT fe, rfl, eqV_dT fe 190 (by decide +kernel)⟩
            · exact ⟨dT ff, rfl, eqV_dT ff 190 (by decide +kernel)⟩
            · exact ⟨dT fe, rfl, eqV_dT fe 190 (by decide +kernel)⟩
            · exact ⟨.str [69], rfl, by rw [dS4, dT0]; rfl⟩
            · exact ⟨.str [69], rfl, by rw [dS6, dT0]; rfl⟩
          exact fun x hx hp => this x ((mem x).1 hx)
      rw [fin]
end
end Mi

set_option Elab.async false
set_option linter.all false
set_option maxRecDepth 100000
set_option maxHeartbeats 0
namespace Hd
open PySem PySem.Spec PyProof.Rows L2
def top (i : Nat) : Stmt := PySem.Challenge.pw_fillbooks_k06_great_terms.main.body.getD i (.Pass ⟨0, 0, 0, 0⟩)
def d0 : Mi.Dd := ⟨"written", ["rows", "terms", "row", "k"], ["rows"], top 6⟩ -- written
def d1 : Mi.Dd := ⟨"row_sizes", ["rows", "sizes", "row", "k"], ["rows"], top 7⟩ -- row_sizes
def d2 : Mi.Dd := ⟨"is_name", ["value"], ["value"], top 16⟩ -- is_name
def d3 : Mi.Dd := ⟨"is_variable", ["value"], ["value"], top 17⟩ -- is_variable
def d4 : Mi.Dd := ⟨"is_term", ["value"], ["value"], top 18⟩ -- is_term
def d5 : Mi.Dd := ⟨"has_form", ["value", "name", "parts"], ["value"], top 19⟩ -- has_form
def d6 : Mi.Dd := ⟨"_is_word", ["value", "signs", "longest", "sign"], ["value", "signs", "longest"], top 20⟩ -- _is_word
def d7 : Mi.Dd := ⟨"_words", ["value", "levels", "many", "part", "inner"], ["value", "levels"], top 21⟩ -- _words
def d8 : Mi.Dd := ⟨"unified", ["pairs", "terms", "pair", "term", "merged", "k", "rows", "homes", "_", "told", "variable"], ["pairs"], top 25⟩ -- unified
def d9 : Mi.Dd := ⟨"merged_rows", ["terms", "same", "bound", "one", "other", "parts", "inner", "leaders", "classes", "order", "places", "row", "leader", "rows", "homes", "k", "part", "sizes"], ["terms", "same", "bound"], top 26⟩ -- merged_rows
def d10 : Mi.Dd := ⟨"_are_pairs", ["value", "pair"], ["value"], top 27⟩ -- _are_pairs
def d11 : Mi.Dd := ⟨"_is_pair", ["value", "term"], ["value"], top 28⟩ -- _is_pair
def d12 : Mi.Dd := ⟨"_are_apart", ["one", "other", "todo", "left", "right"], ["one", "other"], top 29⟩ -- _are_apart
def d13 : Mi.Dd := ⟨"_numbered", ["terms", "parts", "inner", "known", "part", "numbers", "standing", "within", "word", "number"], ["terms"], top 30⟩ -- _numbered
def d14 : Mi.Dd := ⟨"_single_word", ["term"], ["term"], top 31⟩ -- _single_word
def d15 : Mi.Dd := ⟨"_same_variables", ["parts", "first", "k", "part"], ["parts"], top 32⟩ -- _same_variables
def d16 : Mi.Dd := ⟨"_merged", ["parts", "inner", "same", "tops", "leaders", "weights", "todo", "one", "other", "high", "low", "k"], ["parts", "inner", "same"], top 33⟩ -- _merged
def d17 : Mi.Dd := ⟨"_top", ["tops", "number"], ["tops", "number"], top 34⟩ -- _top
def d18 : Mi.Dd := ⟨"_can_be_one", ["one", "other"], ["one", "other"], top 35⟩ -- _can_be_one
def d19 : Mi.Dd := ⟨"_classes", ["parts", "inner", "leaders", "classes", "part", "leader", "k"], ["parts", "inner", "leaders"], top 36⟩ -- _classes
def d20 : Mi.Dd := ⟨"_within", ["told"], ["told"], top 37⟩ -- _within
def d21 : Mi.Dd := ⟨"_inmost_first", ["classes", "users", "waits", "k", "told", "within", "part", "order", "done", "now", "user"], ["classes"], top 38⟩ -- _inmost_first
def d22 : Mi.Dd := ⟨"_row", ["told", "places", "k"], ["told", "places"], top 39⟩ -- _row
def d23 : Mi.Dd := ⟨"_law_source", ["_law_script", "_law_cells", "_law_k"], ["_law_script"], top 41⟩ -- _law_source
def d24 : Mi.Dd := ⟨"_law_draw", ["_law_source_here", "_law_limit", "_law_cells", "_law_turn", "_law_place", "_law_cell", "_law_number"], ["_law_source_here", "_law_limit"], top 42⟩ -- _law_draw
def d25 : Mi.Dd := ⟨"_law_told", ["_law_pairs", "_law_caught", "_law_found", "e", "_law_hits"], ["_law_pairs"], top 43⟩ -- _law_told
def d26 : Mi.Dd := ⟨"_law_letter", ["_law_number"], ["_law_number"], top 44⟩ -- _law_letter
def d27 : Mi.Dd := ⟨"_law_chain", ["_law_many", "_law_wide", "_law_found", "_law_k"], ["_law_many", "_law_wide"], top 45⟩ -- _law_chain
def d28 : Mi.Dd := ⟨"_law_doubled", ["_law_many", "_law_wide", "_law_last", "_law_term", "_law_k"], ["_law_many", "_law_wide", "_law_last"], top 46⟩ -- _law_doubled
def d29 : Mi.Dd := ⟨"_law_mixed", ["_law_source_here", "_law_pairs", "_law_left", "_law_found", "_law_at", "_law_one", "_law_other"], ["_law_source_here", "_law_pairs"], top 47⟩ -- _law_mixed
def d30 : Mi.Dd := ⟨"_law_sizes", ["_law_many", "_law_wide", "_law_sizes_here", "_law_k"], ["_law_many", "_law_wide"], top 48⟩ -- _law_sizes
def d31 : Mi.Dd := ⟨"_law_fits", ["_law_source_here", "_law_many", "_law_wide", "_law_pairs", "_law_found", "_law_sizes_here", "_law_k"], ["_law_source_here", "_law_many", "_law_wide"], top 49⟩ -- _law_fits
def d32 : Mi.Dd := ⟨"_law_links", ["_law_word", "_law_many", "_law_found", "_law_k", "_law_names", "_law_j", "_law_left", "_law_right"], ["_law_word", "_law_many"], top 50⟩ -- _law_links
def d33 : Mi.Dd := ⟨"_law_long_fits", ["_law_source_here", "_law_chains", "_law_one", "_law_other", "_law_due", "_law_pairs", "_law_deep", "_law_k", "_law_term", "_law_j", "_law_found"], ["_law_source_here"], top 51⟩ -- _law_long_fits
def d34 : Mi.Dd := ⟨"law", ["_law_script", "_law_source_here", "_law_many", "_law_wide", "_law_pairs", "_law_last", "_law_some", "_law_bad", "_law_double", "_law_found", "_law_four"], ["_law_script"], top 52⟩ -- law
def inits : List He.DefD := []
def own : List Str := ["FillError", "InvalidTerm", "InvalidPairs", "TooMany"]
def anc : List (List Nat) := [[0, 4], [1, 0, 4], [2, 0, 4], [3, 0, 4]]
def xf : List (List Str) := [[], [], [], []]
def p : Mi.Pd := { own := own, anc := anc, xf := xf, more := ["ValueError"], defs := [d0, d1, d2, d3, d4, d5, d6, d7, d8, d9, d10, d11, d12, d13, d14, d15, d16, d17, d18, d19, d20, d21, d22, d23, d24, d25, d26, d27, d28, d29, d30, d31, d32, d33, d34], inits := inits, cst := [("NAME_SIGNS", .str "abcdefghijklmnopqrstuvwxyz0123456789"), ("VARIABLE_SIGNS", .str "ABCDEFGHIJKLMNOPQRSTUVWXYZ"), ("LONGEST_NAME", .int 8), ("LONGEST_VARIABLE", .int 3), ("MOST_TERMS", .int 4), ("MOST_LEVELS", .int 6), ("MOST_WORDS", .int 30), ("MOST_PAIRS", .int 10), ("MOST_TOLD_WORDS", .int 60)], free := ["ValueError", "abs", "all", "any", "enumerate", "int", "isinstance", "len", "list", "min", "range", "sorted", "str", "sum", "tuple", "zip"] }
def names0 : List PySem.Str := [("FillError" : PySem.Str), ("InvalidTerm" : PySem.Str), ("InvalidPairs" : PySem.Str), ("TooMany" : PySem.Str), ("written" : PySem.Str), ("row_sizes" : PySem.Str), ("NAME_SIGNS" : PySem.Str), ("VARIABLE_SIGNS" : PySem.Str), ("LONGEST_NAME" : PySem.Str), ("LONGEST_VARIABLE" : PySem.Str), ("MOST_TERMS" : PySem.Str), ("MOST_LEVELS" : PySem.Str), ("MOST_WORDS" : PySem.Str), ("is_name" : PySem.Str), ("is_variable" : PySem.Str), ("is_term" : PySem.Str), ("has_form" : PySem.Str), ("_is_word" : PySem.Str), ("_words" : PySem.Str), ("MOST_PAIRS" : PySem.Str), ("MOST_TOLD_WORDS" : PySem.Str), ("unified" : PySem.Str), ("merged_rows" : PySem.Str), ("_are_pairs" : PySem.Str), ("_is_pair" : PySem.Str), ("_are_apart" : PySem.Str), ("_numbered" : PySem.Str), ("_single_word" : PySem.Str), ("_same_variables" : PySem.Str), ("_merged" : PySem.Str), ("_top" : PySem.Str), ("_can_be_one" : PySem.Str), ("_classes" : PySem.Str), ("_within" : PySem.Str), ("_inmost_first" : PySem.Str)]
def names1 : List PySem.Str := [("_row" : PySem.Str), ("_law_source" : PySem.Str), ("_law_draw" : PySem.Str), ("_law_told" : PySem.Str), ("_law_letter" : PySem.Str), ("_law_chain" : PySem.Str), ("_law_doubled" : PySem.Str), ("_law_mixed" : PySem.Str), ("_law_sizes" : PySem.Str), ("_law_fits" : PySem.Str), ("_law_links" : PySem.Str), ("_law_long_fits" : PySem.Str)]
def names : List PySem.Str := names0 ++ names1
abbrev R : PySem.W.OpenRow := PySem.W.OpenLaw.row PySem.Challenge.rw_fillbooks_k06_great_terms
abbrev hk : PySem.W.Hook := Mi.hookX 4 p.bb p.fa p.fn
def ob (s : PySem.W.SharedT) : Bool × He.AlD := Mi.obsXG 4 p.bb p.fa p.fn (HandSHeadRun.getT s)
theorem ob_eq (s : PySem.W.SharedT) : ob s = hk.obs s.abs := Mi.obsXG_eq (HandSHeadRun.getT_eq s)
theorem ok : p.ok = true := by kernel_rfl
theorem run (w : World) : HandSHeadRun.RunEq R (PySem.W.view R.prog [52]) hk ob 15000 names w := by
  intro os
  kernel_rfl
theorem bd0 : Mi.BindOk d0 := fun _ _ _ _ _ _ us hl => match us, hl with | [_], _ => rfl
theorem bd1 : Mi.BindOk d1 := fun _ _ _ _ _ _ us hl => match us, hl with | [_], _ => rfl
theorem bd2 : Mi.BindOk d2 := fun _ _ _ _ _ _ us hl => match us, hl with | [_], _ => rfl
theorem bd3 : Mi.BindOk d3 := fun _ _ _ _ _ _ us hl => match us, hl with | [_], _ => rfl
theorem bd4 : Mi.BindOk d4 := fun _ _ _ _ _ _ us hl => match us, hl with | [_], _ => rfl
theorem bd5 : Mi.BindOk d5 := fun _ _ _ _ _ _ us hl => match us, hl with | [_], _ => rfl
theorem bd6 : Mi.BindOk d6 := fun _ _ _ _ _ _ us hl => match us, hl with | [_, _, _], _ => rfl
theorem bd7 : Mi.BindOk d7 := fun _ _ _ _ _ _ us hl => match us, hl with | [_, _], _ => rfl
theorem bd8 : Mi.BindOk d8 := fun _ _ _ _ _ _ us hl => match us, hl with | [_], _ => rfl
theorem bd9 : Mi.BindOk d9 := fun _ _ _ _ _ _ us hl => match us, hl with | [_, _, _], _ => rfl
theorem bd10 : Mi.BindOk d10 := fun _ _ _ _ _ _ us hl => match us, hl with | [_], _ => rfl
theorem bd11 : Mi.BindOk d11 := fun _ _ _ _ _ _ us hl => match us, hl with | [_], _ => rfl
theorem bd12 : Mi.BindOk d12 := fun _ _ _ _ _ _ us hl => match us, hl with | [_, _], _ => rfl
theorem bd13 : Mi.BindOk d13 := fun _ _ _ _ _ _ us hl => match us, hl with | [_], _ => rfl
theorem bd14 : Mi.BindOk d14 := fun _ _ _ _ _ _ us hl => match us, hl with | [_], _ => rfl
theorem bd15 : Mi.BindOk d15 := fun _ _ _ _ _ _ us hl => match us, hl with | [_], _ => rfl
theorem bd16 : Mi.BindOk d16 := fun _ _ _ _ _ _ us hl => match us, hl with | [_, _, _], _ => rfl
theorem bd17 : Mi.BindOk d17 := fun _ _ _ _ _ _ us hl => match us, hl with | [_, _], _ => rfl
theorem bd18 : Mi.BindOk d18 := fun _ _ _ _ _ _ us hl => match us, hl with | [_, _], _ => rfl
theorem bd19 : Mi.BindOk d19 := fun _ _ _ _ _ _ us hl => match us, hl with | [_, _, _], _ => rfl
theorem bd20 : Mi.BindOk d20 := fun _ _ _ _ _ _ us hl => match us, hl with | [_], _ => rfl
theorem bd21 : Mi.BindOk d21 := fun _ _ _ _ _ _ us hl => match us, hl with | [_], _ => rfl
theorem bd22 : Mi.BindOk d22 := fun _ _ _ _ _ _ us hl => match us, hl with | [_, _], _ => rfl
theorem bd23 : Mi.BindOk d23 := fun _ _ _ _ _ _ us hl => match us, hl with | [_], _ => rfl
theorem bd24 : Mi.BindOk d24 := fun _ _ _ _ _ _ us hl => match us, hl with | [_, _], _ => rfl
theorem bd25 : Mi.BindOk d25 := fun _ _ _ _ _ _ us hl => match us, hl with | [_], _ => rfl
theorem bd26 : Mi.BindOk d26 := fun _ _ _ _ _ _ us hl => match us, hl with | [_], _ => rfl
theorem bd27 : Mi.BindOk d27 := fun _ _ _ _ _ _ us hl => match us, hl with | [_, _], _ => rfl
theorem bd28 : Mi.BindOk d28 := fun _ _ _ _ _ _ us hl => match us, hl with | [_, _, _], _ => rfl
theorem bd29 : Mi.BindOk d29 := fun _ _ _ _ _ _ us hl => match us, hl with | [_, _], _ => rfl
theorem bd30 : Mi.BindOk d30 := fun _ _ _ _ _ _ us hl => match us, hl with | [_, _], _ => rfl
theorem bd31 : Mi.BindOk d31 := fun _ _ _ _ _ _ us hl => match us, hl with | [_, _, _], _ => rfl
theorem bd32 : Mi.BindOk d32 := fun _ _ _ _ _ _ us hl => match us, hl with | [_, _], _ => rfl
theorem bd33 : Mi.BindOk d33 := fun _ _ _ _ _ _ us hl => match us, hl with | [_], _ => rfl
theorem bd34 : Mi.BindOk d34 := fun _ _ _ _ _ _ us hl => match us, hl with | [_], _ => rfl
theorem binds : ∀ d ∈ p.defs, Mi.BindOk d := by
  intro d hd
  simp only [p, List.mem_cons, List.not_mem_nil, or_false] at hd
  rcases hd with rfl | rfl | rfl | rfl | rfl | rfl | rfl | rfl | rfl | rfl | rfl | rfl | rfl | rfl | rfl | rfl | rfl | rfl | rfl | rfl | rfl | rfl | rfl | rfl | rfl | rfl | rfl | rfl | rfl | rfl | rfl | rfl | rfl | rfl | rfl
  · exact bd0
  · exact bd1
  · exact bd2
  · exact bd3
  · exact bd4
  · exact bd5
  · exact bd6
  · exact bd7
  · exact bd8
  · exact bd9
  · exact bd10
  · exact bd11
  · exact bd12
  · exact bd13
  · exact bd14
  · exact bd15
  · exact bd16
  · exact bd17
  · exact bd18
  · exact bd19
  · exact bd20
  · exact bd21
  · exact bd22
  · exact bd23
  · exact bd24
  · exact bd25
  · exact bd26
  · exact bd27
  · exact bd28
  · exact bd29
  · exact bd30
  · exact bd31
  · exact bd32
  · exact bd33
  · exact bd34
theorem initOk {K : PySem.W.Frag} {P : Program} {w : World} {mg : Str → Option Value} {base : Heap} (c : He.SaysD p.fa p.fn K) (hB : p.bb K = true) : Mi.InitOk p K P w mg base := by
  intro c0 hc hx
  have hc : c0 < 4 := hc
  match c0, hc with
  | 0, _ => exact absurd rfl hx
  | 1, _ => exact absurd rfl hx
  | 2, _ => exact absurd rfl hx
  | 3, _ => exact absurd rfl hx
end Hd
open PySem PySem.W PySem.Calls PyProof.Rows
theorem Hd.holds {n : Nat} (hn : n ≤ 60) (hw : ∀ ns : List Int, ns.length ≤ 63 → Mi.WPc Hd.p.Z Hd.p.B n 34 [.ref 0] [.fro (ns.map Mi.D.int)] (fun d _ => d = .bl true) fun _ _ _ => False) : PySem.Challenge.rw_fillbooks_k06_great_terms.Holds := by
  w_on; o_law
  refine HandSHeadRun.head_any (r := OpenLaw.row PySem.Challenge.rw_fillbooks_k06_great_terms) (q := view (OpenLaw.row PySem.Challenge.rw_fillbooks_k06_great_terms).prog [52]) (H := Hd.hk) (ob := Hd.ob) (M := 15000) (loose := Hd.names) (d := HandSHeadRun.topDef (OpenLaw.row PySem.Challenge.rw_fillbooks_k06_great_terms).prog 52) (kwd := []) Hd.ob_eq
    (by kernel_rfl) (fun s => by kernel_rfl) Hd.run (by kernel_rfl) (by kernel_rfl) (by kernel_rfl) (by rfl) (by first | assumption | decide +kernel) (by decide +kernel) ⟨rfl, rfl, rfl, rfl, rfl, by decide +kernel⟩ ?hw ?hc
  case hw => w_witness2
  case hc =>
    refine L2.walk_ofE (l := PySem.Challenge.rw_fillbooks_k06_great_terms) (n := 63) (k := n + 3) (x := "_law_script") (CX := L2.CX0) rfl (by decide) (by kernel_rfl) (L2.Room.mono (k := 63) ⟨rfl, by decide, by decide⟩ (by omega)) ?F (fun _ _ _ _ z => z)
    intro w mg fa h Y G hmg0
    obtain ⟨K, KX, c, hB⟩ := Y
    have hmg : mg ("law" : PySem.Str) = some (.ref fa) := by
      have e : (HandSHeadRun.topDef (OpenLaw.row PySem.Challenge.rw_fillbooks_k06_great_terms).prog 52).name = ("law" : PySem.Str) := by kernel_rfl
      rw [← e]
      exact hmg0
    obtain ⟨fd, sp, b1, b2, b3⟩ := Mi.law_fn (p := Hd.p) (x := "law") (s := "_law_script") (f := 34) (n := n) (P := (PySem.Challenge.rw_fillbooks_k06_great_terms).prog) (w := w) KX G c hB Hd.ok Hd.binds (fun base => Hd.initOk c hB) (Mi.ixs_in rfl) rfl hmg hw
    exact ⟨K, fd, sp, KX, b1, b2, b3⟩

set_option Elab.async false
set_option linter.all false
set_option maxRecDepth 100000
set_option maxHeartbeats 0
namespace Hd
open PySem PySem.Spec PyProof.Rows L2
theorem z06 : Mi.Z06 p.Z where
  nx := rfl
  l20 := by decide +kernel
  l30 := by decide +kernel
  l33 := by decide +kernel
  l32 := by decide +kernel
  l31 := by decide +kernel
  l34 := by decide +kernel
  m2 := fun d => rfl
  m3 := fun d => rfl
theorem u06 : Mi.HasU p.B := fun i b h => by
  have e : p.B.take 23 = Mi.Uf.U0 := by kernel_rfl
  rw [← e] at h
  rw [List.getElem?_take] at h
  split at h
  · exact h
  · cases h
theorem g06 : Mi.HasG p.B := ⟨u06, by kernel_rfl, by kernel_rfl, by kernel_rfl, by kernel_rfl, by kernel_rfl, by kernel_rfl, by kernel_rfl, by kernel_rfl, by kernel_rfl, by kernel_rfl, by kernel_rfl, by kernel_rfl⟩
end Hd
theorem PySem.Challenge.cw_fillbooks_k06_great_terms_holds : PySem.Challenge.rw_fillbooks_k06_great_terms.Holds :=
  Hd.holds (n := 17) (by decide) fun ns _ => Mi.law06_w (j := 0) Hd.g06 Hd.z06 ns

