import PyProof.Rows.All
import Wide.All
import OpenK.AllK
import Wide.FinOn
import HandS.ForMost
import HandS.Exc
import HandS.TryOnly
import HandS.ExcOwn
import HandS.WordsExc
import HandS.TupAny
import HandS.TupMul
import HandS.Style
import HandS.Wide
import HandS.Flow
import PyProof.NeKinds
import HandS.SetKeys
import HandS.IsInst
import HandS.ExcIs
import HandS.ExcValue
import HandS.Comp
import HandS.DictComp
import HandS.Iter
import HandS.ExcField
import HandS.ExcInit
import HandS.Small
import HandS.Defaults
import HandS.HeadEnd
import HandS.HeadHook1
import HandS.HeadHook2
import HandS.Words
import KE.KStateDown
import Lean
import HandS.Head0
import HandS.Head1
import HandS.Head2
import PySem.Challenge.RW_fillbooks_k38_errors
set_option Elab.async false
set_option linter.all false
set_option maxRecDepth 100000
set_option maxHeartbeats 1000000
/-! Mi: plain data over the layer's heap: what a value is worth, with lists and dicts at places of a heap of our own. -/
namespace Mi
open PySem PySem.Spec PyProof.Rows L2

/-- a key of a dict -/
inductive Ky where
  | i (n : Int) | s (l : List Nat)
  deriving DecidableEq

/-- a value: plain data; ref: a place of the heap (a list, a dict); exn: an exception of our class c -/
inductive D where
  | non | bl (b : Bool) | int (i : Int) | str (l : List Nat) | tup (xs : List D) | ref (a : Nat) | exn (c : Nat) (fs : List D)

def Ky.d : Ky → D
  | .i n => .int n
  | .s l => .str l
def D.ky : D → Option Ky
  | .int n => some (.i n)
  | .str l => some (.s l)
  | _ => none
theorem D.ky_d {d : D} {k : Ky} (h : d.ky = some k) : d = k.d := by
  cases d <;> first | (cases h; rfl) | cases h

/-- what stands at a place: a list, a list that is read alone, a dict (locked: a loop goes over it) -/
inductive O where
  | lst (xs : List D) | fro (xs : List D) | dct (lk : Bool) (kvs : List (Ky × D))
abbrev Hh := List O

/-- an exception's object: of the class at C, with its dict -/
def ExH (C : Addr) (d : Option Addr) (a : Addr) : HO := .ext fun h => ∃ (oe : Obj) (vs : Array Value), h.get? a = some oe ∧ Zc (.ref C) d oe ∧ oe.data = .fields vs
def Imm (a : Addr) (o : HO) : Prop := (∃ xs, o = .tup xs) ∨ (∃ C d, o = ExH C d a) ∨ (∃ fs, o = .xd fs) ∨ ∃ q u, o = .frz q u

/-- .. by which a value is what it is -/
def Imm0 (a : Addr) (o : HO) : Prop := (∃ xs, o = .tup xs) ∨ (∃ C d, o = ExH C d a) ∨ ∃ fs, o = .xd fs
def Ext0 (H H' : Hp) : Prop := ∀ a o, Imm0 a o → H a = some o → H' a = some o
/-- what stands still -/
def Ext (H H' : Hp) : Prop := ∀ a o, Imm a o → H a = some o → H' a = some o
theorem Imm0.imm {a : Addr} {o : HO} (h : Imm0 a o) : Imm a o := by
  rcases h with h | h | h
  · exact .inl h
  · exact .inr (.inl h)
  · exact .inr (.inr (.inl h))
theorem Ext.e0 {H H' : Hp} (e : Ext H H') : Ext0 H H' := fun a o i h => e a o i.imm h
theorem Ext.refl (H : Hp) : Ext H H := fun _ _ _ h => h
theorem Ext.trans {H H1 H2 : Hp} (a : Ext H H1) (b : Ext H1 H2) : Ext H H2 := fun x o i h => b x o i (a x o i h)
theorem Ext.new {H : Hp} {p : Addr} {o : HO} (h : H p = none) : Ext H (upd H p o) := fun a u _ e => by
  rw [upd_ne (ne_of_none e h)]; exact e
theorem ext_inj {φ ψ : Heap → Prop} (h : (HO.ext φ) = .ext ψ) : φ = ψ := by cases h; rfl
/-- one that may change is changed -/
def Chg : HO → Prop
  | .lst _ => True
  | .dK _ => True
  | .frz _ _ => True
  | _ => False
/-- one that is written -/
def Wri : HO → Prop
  | .lst _ => True
  | .dK _ => True
  | _ => False
theorem Wri.ne {a : Addr} {o u : HO} (h : Wri o) (i : Imm a u) : o ≠ u := by
  rcases i with ⟨xs, rfl⟩ | ⟨C, d, rfl⟩ | ⟨fs, rfl⟩ | ⟨q, u, rfl⟩
  · intro e; subst e; exact h
  · intro e; subst e; exact h
  · intro e; subst e; exact h
  · intro e; subst e; exact h
theorem Ext.chg {H : Hp} {p : Addr} {o u : HO} (h : H p = some o) (c : Wri o) : Ext H (upd H p u) := fun a v i e => by
  rw [upd_ne]
  · exact e
  · intro q; subst q; rw [h] at e; exact c.ne i (Option.some.inj e)

/-- where a class of ours stands -/
structure Tab where
  K : PySem.W.Frag
  xa : Nat → Addr
  xf : Nat → List Str

mutual
inductive RelD (T : Tab) (ρ : List Addr) (H : Hp) : D → V → Prop
  | non : RelD T ρ H .non .non
  | bl (b : Bool) : RelD T ρ H (.bl b) (.bl b)
  | int (i : Int) : RelD T ρ H (.int i) (.int i)
  | str {l : List Nat} {x : Str} (h : x.cps.toList = l) : RelD T ρ H (.str l) (.str x)
  | tup {ds : List D} {a : Addr} {vs : List V} (h : H a = some (.tup vs)) (r : RelDs T ρ H ds vs) : RelD T ρ H (.tup ds) (.ref a)
  | ref {i : Nat} {a : Addr} (h : ρ[i]? = some a) : RelD T ρ H (.ref i) (.ref a)
  | exn {c : Nat} {a : Addr} (h : H a = some (ExH (T.xa c) none a)) : RelD T ρ H (.exn c []) (.ref a)
  | exf {c : Nat} {a dx : Addr} {fs : List D} {vs : List V} (h : H a = some (ExH (T.xa c) (some dx) a)) (hd : H dx = some (.xd ((T.xf c).zip vs))) (hl : (T.xf c).length = vs.length) (r : RelDs T ρ H fs vs) : RelD T ρ H (.exn c fs) (.ref a)
inductive RelDs (T : Tab) (ρ : List Addr) (H : Hp) : List D → List V → Prop
  | nil : RelDs T ρ H [] []
  | cons {d : D} {ds : List D} {v : V} {vs : List V} (h : RelD T ρ H d v) (t : RelDs T ρ H ds vs) : RelDs T ρ H (d :: ds) (v :: vs)
end
section
variable {T : Tab} {ρ ρ' : List Addr} {H H' : Hp}
theorem pre_get {ρ ρ' : List Addr} (p : ρ <+: ρ') {i : Nat} {a : Addr} (h : ρ[i]? = some a) : ρ'[i]? = some a := by
  obtain ⟨t, rfl⟩ := p
  have hi : i < ρ.length := (List.getElem?_eq_some_iff.mp h).1
  rw [List.getElem?_append_left hi]; exact h
mutual
theorem RelD.mono0 (p : ρ <+: ρ') (e : Ext0 H H') : ∀ {d : D} {v : V}, RelD T ρ H d v → RelD T ρ' H' d v
  | _, _, .non => .non
  | _, _, .bl b => .bl b
  | _, _, .int i => .int i
  | _, _, .str h => .str h
  | _, _, .tup h r => .tup (e _ _ (.inl ⟨_, rfl⟩) h) (RelDs.mono0 p e r)
  | _, _, .ref h => .ref (pre_get p h)
  | _, _, .exn h => .exn (e _ _ (.inr (.inl ⟨_, _, rfl⟩)) h)
  | _, _, .exf h hd hl r => .exf (e _ _ (.inr (.inl ⟨_, _, rfl⟩)) h) (e _ _ (.inr (.inr ⟨_, rfl⟩)) hd) hl (RelDs.mono0 p e r)
theorem RelDs.mono0 (p : ρ <+: ρ') (e : Ext0 H H') : ∀ {ds : List D} {vs : List V}, RelDs T ρ H ds vs → RelDs T ρ' H' ds vs
  | _, _, .nil => .nil
  | _, _, .cons h t => .cons (RelD.mono0 p e h) (RelDs.mono0 p e t)
end
theorem RelD.mono (p : ρ <+: ρ') (e : Ext H H') {d : D} {v : V} (r : RelD T ρ H d v) : RelD T ρ' H' d v := r.mono0 p e.e0
theorem RelDs.mono (p : ρ <+: ρ') (e : Ext H H') {ds : List D} {vs : List V} (r : RelDs T ρ H ds vs) : RelDs T ρ' H' ds vs := r.mono0 p e.e0
theorem RelDs.length : ∀ {ds : List D} {vs : List V}, RelDs T ρ H ds vs → ds.length = vs.length
  | _, _, .nil => rfl
  | _, _, .cons _ t => by rw [List.length_cons, List.length_cons, RelDs.length t]
theorem RelDs.get : ∀ {ds : List D} {vs : List V} {i : Nat} {d : D}, RelDs T ρ H ds vs → ds[i]? = some d → ∃ v, vs[i]? = some v ∧ RelD T ρ H d v
  | _, _, _, _, .nil, h => by simp at h
  | _, _, 0, _, .cons h _, e => by simp at e; subst e; exact ⟨_, rfl, h⟩
  | _, _, i + 1, d, .cons _ t, e => by
    obtain ⟨v, h1, h2⟩ := RelDs.get (i := i) (d := d) t (by simpa using e)
    exact ⟨v, by simpa using h1, h2⟩
theorem RelDs.append : ∀ {ds es : List D} {vs ws : List V}, RelDs T ρ H ds vs → RelDs T ρ H es ws → RelDs T ρ H (ds ++ es) (vs ++ ws)
  | _, _, _, _, .nil, r => r
  | _, _, _, _, .cons h t, r => .cons h (RelDs.append t r)
theorem RelDs.take : ∀ {ds : List D} {vs : List V} (n : Nat), RelDs T ρ H ds vs → RelDs T ρ H (ds.take n) (vs.take n)
  | _, _, 0, _ => by simp; exact .nil
  | _, _, _ + 1, .nil => .nil
  | _, _, n + 1, .cons h t => .cons h (RelDs.take n t)
theorem RelDs.drop : ∀ {ds : List D} {vs : List V} (n : Nat), RelDs T ρ H ds vs → RelDs T ρ H (ds.drop n) (vs.drop n)
  | _, _, 0, r => r
  | _, _, _ + 1, .nil => .nil
  | _, _, n + 1, .cons _ t => RelDs.drop n t
theorem RelDs.set : ∀ {ds : List D} {vs : List V} {d : D} {v : V} (n : Nat), RelDs T ρ H ds vs → RelD T ρ H d v → RelDs T ρ H (ds.set n d) (vs.set n v)
  | _, _, _, _, _, .nil, _ => .nil
  | _, _, _, _, 0, .cons _ t, r => .cons r t
  | _, _, _, _, n + 1, .cons h t, r => .cons h (RelDs.set n t r)
theorem RelDs.reverse : ∀ {ds : List D} {vs : List V}, RelDs T ρ H ds vs → RelDs T ρ H ds.reverse vs.reverse
  | _, _, .nil => .nil
  | _, _, .cons h t => by
    rw [List.reverse_cons, List.reverse_cons]
    exact RelDs.append (RelDs.reverse t) (.cons h .nil)
theorem RelDs.dropLast {ds : List D} {vs : List V} (r : RelDs T ρ H ds vs) : RelDs T ρ H ds.dropLast vs.dropLast := by
  rw [List.dropLast_eq_take, List.dropLast_eq_take, r.length]
  exact r.take _
theorem RelDs.rep : ∀ {ds : List D} {vs : List V} (n : Nat), RelDs T ρ H ds vs → RelDs T ρ H (List.replicate n ds).flatten (List.replicate n vs).flatten
  | _, _, 0, _ => .nil
  | _, _, n + 1, r => by
    rw [List.replicate_succ, List.replicate_succ, List.flatten_cons, List.flatten_cons]
    exact r.append (RelDs.rep n r)

/-! ### keys -/
inductive KyR : Ky → Key → Prop
  | i (n : Int) : KyR (.i n) (.inl n)
  | s {l : List Nat} {x : Str} (h : x.cps.toList = l) : KyR (.s l) (.inr x)
theorem str_ext {x y : Str} (h : x.cps.toList = y.cps.toList) : x = y := by
  cases x; cases y; congr 1; exact Array.toList_inj.mp h
theorem KyR.eq_iff {k k' : Ky} {q q' : Key} (r : KyR k q) (r' : KyR k' q') : (k = k') ↔ (q = q') := by
  cases r with
  | i n =>
    cases r' with
    | i m => exact ⟨fun h => (by cases h; rfl), fun h => (by cases h; rfl)⟩
    | s h => exact ⟨fun h => (by cases h), fun h => (by cases h)⟩
  | s h =>
    cases r' with
    | i m => exact ⟨fun h => (by cases h), fun h => (by cases h)⟩
    | s h' =>
      subst h; subst h'
      exact ⟨fun e => (by rw [str_ext (Ky.s.inj e)]), fun e => (by cases e; rfl)⟩
theorem KyR.of {d : D} {v : V} {k : Ky} (r : RelD T ρ H d v) (h : d.ky = some k) : ∃ q, KyR k q ∧ v = kV q := by
  cases r with
  | int n => cases h; exact ⟨_, .i n, rfl⟩
  | str e => cases h; exact ⟨_, .s e, rfl⟩
  | _ => cases h
theorem KyR.rel {k : Ky} {q : Key} (r : KyR k q) : RelD T ρ H k.d (kV q) := by
  cases r with
  | i n => exact .int n
  | s h => exact .str h
inductive KVs (T : Tab) (ρ : List Addr) (H : Hp) : List (Ky × D) → List (Key × V) → Prop
  | nil : KVs T ρ H [] []
  | cons {k : Ky} {d : D} {l : List (Ky × D)} {q : Key} {v : V} {m : List (Key × V)} (hk : KyR k q) (hd : RelD T ρ H d v) (t : KVs T ρ H l m) : KVs T ρ H ((k, d) :: l) ((q, v) :: m)
theorem KVs.mono0 (p : ρ <+: ρ') (e : Ext0 H H') {l : List (Ky × D)} {m : List (Key × V)} (r : KVs T ρ H l m) : KVs T ρ' H' l m := by
  induction r with
  | nil => exact .nil
  | cons hk hd _ ih => exact .cons hk (hd.mono0 p e) ih
theorem KVs.mono (p : ρ <+: ρ') (e : Ext H H') {l : List (Ky × D)} {m : List (Key × V)} (r : KVs T ρ H l m) : KVs T ρ' H' l m := r.mono0 p e.e0
theorem KVs.length {l : List (Ky × D)} {m : List (Key × V)} (r : KVs T ρ H l m) : l.length = m.length := by
  induction r with
  | nil => rfl
  | cons _ _ _ ih => rw [List.length_cons, List.length_cons, ih]
/-- the value of a key -/
def getKd : List (Ky × D) → Ky → Option D
  | [], _ => none
  | (j, d) :: l, k => if j = k then some d else getKd l k
def repKd : List (Ky × D) → Ky → D → List (Ky × D)
  | [], _, _ => []
  | (j, d) :: l, k, e => (if j = k then (j, e) else (j, d)) :: repKd l k e
def putKd (l : List (Ky × D)) (k : Ky) (e : D) : List (Ky × D) := if (getKd l k).isSome then repKd l k e else l ++ [(k, e)]
def dropKd : List (Ky × D) → Ky → List (Ky × D)
  | [], _ => []
  | (j, d) :: l, k => if j = k then dropKd l k else (j, d) :: dropKd l k
theorem KVs.get {l : List (Ky × D)} {m : List (Key × V)} (r : KVs T ρ H l m) {k : Ky} {q : Key} (hk : KyR k q) :
    (∀ d, getKd l k = some d → ∃ v, valV m q = some v ∧ RelD T ρ H d v) ∧ (getKd l k = none → valV m q = none) := by
  induction r with
  | nil => exact ⟨fun d h => (by cases h), fun _ => rfl⟩
  | @cons j d l q' v m hj hd t ih =>
    by_cases e : j = k
    · have e' : q' = q := (hj.eq_iff hk).mp e
      unfold getKd
      rw [if_pos e, valV_pos e']
      exact ⟨fun d' h => (by cases h; exact ⟨v, rfl, hd⟩), fun h => (by cases h)⟩
    · have e' : ¬ q' = q := fun z => e ((hj.eq_iff hk).mpr z)
      unfold getKd
      rw [if_neg e, valV_neg e']
      exact ih
theorem KVs.some_iff {l : List (Ky × D)} {m : List (Key × V)} (r : KVs T ρ H l m) {k : Ky} {q : Key} (hk : KyR k q) : (valV m q).isSome = (getKd l k).isSome := by
  cases e : getKd l k with
  | none => rw [(r.get hk).2 e]; rfl
  | some d => obtain ⟨v, h, _⟩ := (r.get hk).1 d e; rw [h]; rfl
theorem KVs.rep {l : List (Ky × D)} {m : List (Key × V)} (r : KVs T ρ H l m) {k : Ky} {q : Key} (hk : KyR k q) {d : D} {v : V} (hd : RelD T ρ H d v) :
    KVs T ρ H (repKd l k d) (m.map fun kv => if kv.1 = q then (kv.1, v) else kv) := by
  induction r with
  | nil => exact .nil
  | @cons j e l q' v' m hj he t ih =>
    unfold repKd
    rw [List.map_cons]
    by_cases z : j = k
    · rw [if_pos z, if_pos ((hj.eq_iff hk).mp z)]
      exact .cons hj hd ih
    · rw [if_neg z, if_neg (fun y => z ((hj.eq_iff hk).mpr y))]
      exact .cons hj he ih
theorem KVs.snoc {l : List (Ky × D)} {m : List (Key × V)} (r : KVs T ρ H l m) {k : Ky} {q : Key} (hk : KyR k q) {d : D} {v : V} (hd : RelD T ρ H d v) : KVs T ρ H (l ++ [(k, d)]) (m ++ [(q, v)]) := by
  induction r with
  | nil => exact .cons hk hd .nil
  | cons hj he _ ih => exact .cons hj he ih
theorem KVs.put {l : List (Ky × D)} {m : List (Key × V)} (r : KVs T ρ H l m) {k : Ky} {q : Key} (hk : KyR k q) {d : D} {v : V} (hd : RelD T ρ H d v) : KVs T ρ H (putKd l k d) (putK m q v) := by
  unfold putKd putK
  rw [valV_any, r.some_iff hk]
  split
  · exact r.rep hk hd
  · exact r.snoc hk hd
theorem KVs.drop {l : List (Ky × D)} {m : List (Key × V)} (r : KVs T ρ H l m) {k : Ky} {q : Key} (hk : KyR k q) : KVs T ρ H (dropKd l k) (dropK m q) := by
  induction r with
  | nil => exact .nil
  | @cons j e l q' v' m hj he t ih =>
    unfold dropKd
    by_cases z : j = k
    · have z' := (hj.eq_iff hk).mp z
      rw [if_pos z, dropK_pos z']
      exact ih
    · have z' : ¬ q' = q := fun y => z ((hj.eq_iff hk).mpr y)
      rw [if_neg z, dropK_neg z']
      exact .cons hj he ih

/-! ### the heap -/
inductive OkO (T : Tab) (ρ : List Addr) (H : Hp) (a : Addr) : O → Prop
  | lst {xs : List D} {vs : List V} (h : H a = some (.lst vs)) (r : RelDs T ρ H xs vs) : OkO T ρ H a (.lst xs)
  | fro {xs : List D} {vs : List V} {o : Obj} (h : H a = some (.frz o (.lst vs))) (r : RelDs T ρ H xs vs) : OkO T ρ H a (.fro xs)
  | dct {kvs : List (Ky × D)} {m : List (Key × V)} (h : H a = some (.dK m)) (r : KVs T ρ H kvs m) : OkO T ρ H a (.dct false kvs)
  | dcl {kvs : List (Ky × D)} {m : List (Key × V)} {o : Obj} (h : H a = some (.frz o (.dK m))) (r : KVs T ρ H kvs m) : OkO T ρ H a (.dct true kvs)
structure Rp (T : Tab) (ρ : List Addr) (h : Hh) (H : Hp) : Prop where
  len : ρ.length = h.length
  nd : ρ.Nodup
  ok : ∀ (i : Nat) (a : Addr) (o : O), ρ[i]? = some a → h[i]? = some o → OkO T ρ H a o
theorem OkO.mono0 (p : ρ <+: ρ') (e : Ext0 H H') {a : Addr} {o : O} (k : H' a = H a) (r : OkO T ρ H a o) : OkO T ρ' H' a o := by
  cases r with
  | lst h r => exact .lst (k.trans h) (r.mono0 p e)
  | fro h r => exact .fro (k.trans h) (r.mono0 p e)
  | dct h r => exact .dct (k.trans h) (r.mono0 p e)
  | dcl h r => exact .dcl (k.trans h) (r.mono0 p e)
theorem OkO.mono (p : ρ <+: ρ') (e : Ext H H') {a : Addr} {o : O} (k : H' a = H a) (r : OkO T ρ H a o) : OkO T ρ' H' a o := r.mono0 p e.e0 k
theorem OkO.chg {a : Addr} {o : O} (r : OkO T ρ H a o) : ∃ u, H a = some u ∧ Chg u := by
  cases r with
  | lst h _ => exact ⟨_, h, trivial⟩
  | fro h _ => exact ⟨_, h, trivial⟩
  | dct h _ => exact ⟨_, h, trivial⟩
  | dcl h _ => exact ⟨_, h, trivial⟩
theorem Rp.at_ {h : Hh} (R : Rp T ρ h H) {i : Nat} {o : O} (e : h[i]? = some o) : ∃ a, ρ[i]? = some a ∧ OkO T ρ H a o := by
  have hi : i < ρ.length := by rw [R.len]; exact (List.getElem?_eq_some_iff.mp e).1
  exact ⟨ρ[i], List.getElem?_eq_getElem hi, R.ok i _ o (List.getElem?_eq_getElem hi) e⟩
theorem Rp.obj {h : Hh} (R : Rp T ρ h H) {i : Nat} {a : Addr} (e : ρ[i]? = some a) : ∃ o, h[i]? = some o ∧ OkO T ρ H a o := by
  have hi : i < h.length := by rw [← R.len]; exact (List.getElem?_eq_some_iff.mp e).1
  exact ⟨h[i], List.getElem?_eq_getElem hi, R.ok i a _ e (List.getElem?_eq_getElem hi)⟩
/-- a new object of the heap -/
theorem Rp.alloc {h : Hh} (R : Rp T ρ h H) {p : Addr} (hp : H p = none) {u : HO} {o : O} (k : OkO T (ρ ++ [p]) (upd H p u) p o) : Rp T (ρ ++ [p]) (h ++ [o]) (upd H p u) where
  len := by rw [List.length_append, List.length_append, R.len]; rfl
  nd := by
    rw [List.nodup_append]
    refine ⟨R.nd, by simp, fun a ha b hb e => ?_⟩
    rw [List.mem_singleton] at hb
    subst hb; subst e
    obtain ⟨i, hi⟩ := List.getElem?_of_mem ha
    obtain ⟨o', _, q⟩ := R.obj hi
    obtain ⟨v, hv, _⟩ := q.chg
    rw [hp] at hv; cases hv
  ok := fun i a o' ha ho => by
    by_cases hi : i < ρ.length
    · rw [List.getElem?_append_left hi] at ha
      rw [List.getElem?_append_left (by rw [← R.len]; exact hi)] at ho
      have q := R.ok i a o' ha ho
      have hne : a ≠ p := by
        obtain ⟨v, hv, _⟩ := q.chg
        exact ne_of_none hv hp
      exact q.mono ⟨[p], rfl⟩ (Ext.new hp) (upd_ne hne)
    · have h1 : i = ρ.length := by
        have := (List.getElem?_eq_some_iff.mp ha).1
        rw [List.length_append, List.length_singleton] at this
        omega
      subst h1
      rw [List.getElem?_append_right (Nat.le_refl _), Nat.sub_self] at ha
      rw [R.len, List.getElem?_append_right (Nat.le_refl _), Nat.sub_self] at ho
      cases ha; cases ho
      exact k
/-- a new object that is no place of the heap (a tuple, an exception) -/
theorem Rp.other {h : Hh} (R : Rp T ρ h H) {p : Addr} (hp : H p = none) {u : HO} : Rp T ρ h (upd H p u) where
  len := R.len
  nd := R.nd
  ok := fun i a o' ha ho => by
    have q := R.ok i a o' ha ho
    have hne : a ≠ p := by
      obtain ⟨v, hv, _⟩ := q.chg
      exact ne_of_none hv hp
    exact q.mono (List.prefix_refl _) (Ext.new hp) (upd_ne hne)
/-- an object of the heap is changed -/
theorem Rp.store0 {h : Hh} (R : Rp T ρ h H) {i : Nat} {a : Addr} (ha : ρ[i]? = some a) {u : HO} (hx : Ext0 H (upd H a u)) {o : O} (k : OkO T ρ (upd H a u) a o) : Rp T ρ (h.set i o) (upd H a u) where
  len := by rw [List.length_set]; exact R.len
  nd := R.nd
  ok := fun j b o' hb ho => by
    by_cases e : j = i
    · subst e
      have hj : j < h.length := by rw [← R.len]; exact (List.getElem?_eq_some_iff.mp ha).1
      rw [List.getElem?_set_self hj] at ho
      rw [ha] at hb
      cases hb; cases ho
      exact k
    · rw [List.getElem?_set_ne (fun z => e z.symm)] at ho
      have q := R.ok j b o' hb ho
      have hne : b ≠ a := fun z => by
        subst z
        have h1 : j < ρ.length := (List.getElem?_eq_some_iff.mp hb).1
        have h2 : i < ρ.length := (List.getElem?_eq_some_iff.mp ha).1
        have e1 : ρ[j] = b := (List.getElem?_eq_some_iff.mp hb).2
        have e2 : ρ[i] = b := (List.getElem?_eq_some_iff.mp ha).2
        exact e ((List.getElem_inj R.nd).mp (e1.trans e2.symm))
      exact q.mono0 (List.prefix_refl _) hx (upd_ne hne)
theorem Rp.store {h : Hh} (R : Rp T ρ h H) {i : Nat} {a : Addr} (ha : ρ[i]? = some a) {u v : HO} (hv : H a = some v) (hc : Wri v) {o : O} (k : OkO T ρ (upd H a u) a o) : Rp T ρ (h.set i o) (upd H a u) := R.store0 ha (Ext.chg hv hc).e0 k
end
end Mi

set_option Elab.async false
set_option linter.all false
set_option maxRecDepth 100000
set_option maxHeartbeats 1000000
/-! Mi: what the layer's judgements say over plain data: lifts; operations on values. -/
namespace Mi
open PySem PySem.Spec PyProof.Rows L2

abbrev PQ := D → Hh → Prop
abbrev PX := Nat → List D → Hh → Prop
abbrev Sl := List (Option D)

def RelS (T : Tab) (ρ : List Addr) (H : Hp) (τ : Sl) (σ : L2.St) : Prop := τ.length = σ.length ∧ ∀ (i : Nat) d, τ[i]? = some (some d) → ∃ v, σ[i]? = some (some v) ∧ RelD T ρ H d v
def RelX (T : Tab) (ρ : List Addr) (H : Hp) (c : Nat) (fs : List D) (cls : Value) (d : Option Addr) : Prop :=
  cls = .ref (T.xa c) ∧ ((fs = [] ∧ d = none) ∨ ∃ dx vs, d = some dx ∧ H dx = some (.xd ((T.xf c).zip vs)) ∧ (T.xf c).length = vs.length ∧ RelDs T ρ H fs vs)

/-- what stands behind a step -/
structure Aft (T : Tab) (ρ : List Addr) (H : Hp) (ρ' : List Addr) (h' : Hh) (H' : Hp) : Prop where
  pre : ρ <+: ρ'
  ext : Ext H H'
  rp : Rp T ρ' h' H'
section
variable {T : Tab} {ρ ρ' ρ'' : List Addr} {H H' H'' : Hp} {h h' h'' : Hh}
theorem Aft.refl (R : Rp T ρ h H) : Aft T ρ H ρ h H := ⟨List.prefix_refl _, Ext.refl _, R⟩
theorem Aft.trans (a : Aft T ρ H ρ' h' H') (b : Aft T ρ' H' ρ'' h'' H'') : Aft T ρ H ρ'' h'' H'' := ⟨a.pre.trans b.pre, a.ext.trans b.ext, b.rp⟩
theorem Aft.d (a : Aft T ρ H ρ' h' H') {d : D} {v : V} (r : RelD T ρ H d v) : RelD T ρ' H' d v := r.mono a.pre a.ext
theorem Aft.ds (a : Aft T ρ H ρ' h' H') {ds : List D} {vs : List V} (r : RelDs T ρ H ds vs) : RelDs T ρ' H' ds vs := r.mono a.pre a.ext
theorem Aft.s (a : Aft T ρ H ρ' h' H') {τ : Sl} {σ : L2.St} (r : RelS T ρ H τ σ) : RelS T ρ' H' τ σ := ⟨r.1, fun i d e => by
  obtain ⟨v, h1, h2⟩ := r.2 i d e
  exact ⟨v, h1, a.d h2⟩⟩
/-- a new list -/
theorem Aft.lst (R : Rp T ρ h H) {p : Addr} (hp : H p = none) {xs : List D} {vs : List V} (r : RelDs T ρ H xs vs) : Aft T ρ H (ρ ++ [p]) (h ++ [.lst xs]) (upd H p (.lst vs)) :=
  ⟨⟨[p], rfl⟩, Ext.new hp, R.alloc hp (.lst upd_same (r.mono ⟨[p], rfl⟩ (Ext.new hp)))⟩
theorem ref_new (R : Rp T ρ h H) {p : Addr} {H' : Hp} : RelD T (ρ ++ [p]) H' (.ref h.length) (.ref p) := by
  refine .ref ?_
  rw [← R.len, List.getElem?_append_right (Nat.le_refl _), Nat.sub_self]; rfl
/-- a new tuple -/
theorem Aft.tup (R : Rp T ρ h H) {p : Addr} (hp : H p = none) {u : HO} : Aft T ρ H ρ h (upd H p u) := ⟨List.prefix_refl _, Ext.new hp, R.other hp⟩
theorem tup_new {p : Addr} (hp : H p = none) {xs : List D} {vs : List V} (r : RelDs T ρ H xs vs) : RelD T ρ (upd H p (.tup vs)) (.tup xs) (.ref p) :=
  .tup upd_same (r.mono (List.prefix_refl _) (Ext.new hp))
theorem RelS.set {τ : Sl} {σ : L2.St} (r : RelS T ρ H τ σ) (i : Nat) {d : D} {v : V} (hd : RelD T ρ H d v) : RelS T ρ H (τ.set i (some d)) (σ.set i (some v)) := by
  refine ⟨by rw [List.length_set, List.length_set]; exact r.1, fun j e hj => ?_⟩
  by_cases q : i = j
  · subst q
    have hi : i < τ.length := by
      have := (List.getElem?_eq_some_iff.mp hj).1
      rwa [List.length_set] at this
    rw [List.getElem?_set_self hi] at hj
    cases hj
    exact ⟨v, List.getElem?_set_self (by rw [← r.1]; exact hi), hd⟩
  · rw [List.getElem?_set_ne q] at hj
    rw [List.getElem?_set_ne q]
    exact r.2 j e hj
theorem RelS.clear {τ : Sl} {σ : L2.St} (r : RelS T ρ H τ σ) (i : Nat) : RelS T ρ H (τ.set i none) (σ.set i none) := by
  refine ⟨by rw [List.length_set, List.length_set]; exact r.1, fun j e hj => ?_⟩
  by_cases q : i = j
  · subst q
    have hi : i < τ.length := by
      have := (List.getElem?_eq_some_iff.mp hj).1
      rwa [List.length_set] at this
    rw [List.getElem?_set_self hi] at hj
    cases hj
  · rw [List.getElem?_set_ne q] at hj
    rw [List.getElem?_set_ne q]
    exact r.2 j e hj
end

/-! ### operations on values -/
abbrev S2 := Hh → D → D → Option (D × Hh)
abbrev SN := Hh → List D → Option (D × Hh)
/-- an operation's answer -/
def Ans (T : Tab) (ρ : List Addr) (H : Hp) (r : Option (D × Hh)) (Q : VK) : Prop := ∃ z h', r = some (z, h') ∧ ∀ ρ' H' v, Aft T ρ H ρ' h' H' → RelD T ρ' H' z v → Q v H'
def r2 (T : Tab) (f : S2) : R2 := fun x y H Q => ∃ ρ h d e, Rp T ρ h H ∧ RelD T ρ H d x ∧ RelD T ρ H e y ∧ Ans T ρ H (f h d e) Q
def rN (T : Tab) (f : SN) : List V → Hp → VK → Prop := fun xs H Q => ∃ ρ h ds, Rp T ρ h H ∧ RelDs T ρ H ds xs ∧ Ans T ρ H (f h ds) Q
def rM (T : Tab) (f : SN) : V → List V → Hp → VK → Prop := fun x xs H Q => ∃ ρ h d ds, Rp T ρ h H ∧ RelD T ρ H d x ∧ RelDs T ρ H ds xs ∧ Ans T ρ H (f h (d :: ds)) Q
section
variable {T : Tab} {ρ : List Addr} {H : Hp} {h : Hh} {Q : VK}
/-- an answer that is a value -/
theorem Ans.val (R : Rp T ρ h H) {z : D} {r : Option (D × Hh)} (a : Ans T ρ H r Q) (e : r = some (z, h)) {v : V} (rv : RelD T ρ H z v) : Q v H := by
  obtain ⟨z', h', e', q⟩ := a
  rw [e] at e'; cases e'
  exact q ρ H v (.refl R) rv
/-- .. that is a new list -/
theorem Ans.lst (R : Rp T ρ h H) {xs : List D} {r : Option (D × Hh)} (a : Ans T ρ H r Q) (e : r = some (.ref h.length, h ++ [.lst xs])) {vs : List V} (rv : RelDs T ρ H xs vs) : ∀ p, H p = none → Q (.ref p) (upd H p (.lst vs)) := fun p hp => by
  obtain ⟨z', h', e', q⟩ := a
  rw [e] at e'; cases e'
  exact q _ _ _ (.lst R hp rv) (ref_new R)
/-- .. that is a new tuple -/
theorem Ans.tup (R : Rp T ρ h H) {xs : List D} {r : Option (D × Hh)} (a : Ans T ρ H r Q) (e : r = some (.tup xs, h)) {vs : List V} (rv : RelDs T ρ H xs vs) : ∀ p, H p = none → Q (.ref p) (upd H p (.tup vs)) := fun p hp => by
  obtain ⟨z', h', e', q⟩ := a
  rw [e] at e'; cases e'
  exact q _ _ _ (.tup R hp) (tup_new hp rv)
theorem Ans.ex {r : Option (D × Hh)} (a : Ans T ρ H r Q) : ∃ z h', r = some (z, h') := by
  obtain ⟨z, h', e, _⟩ := a
  exact ⟨z, h', e⟩
/-- a list of the heap -/
theorem Rp.lst {i : Nat} {v : V} {xs : List D} (R : Rp T ρ h H) (r : RelD T ρ H (.ref i) v) (e : h[i]? = Option.some (.lst xs)) : ∃ a vs, v = .ref a ∧ ρ[i]? = Option.some a ∧ H a = Option.some (.lst vs) ∧ RelDs T ρ H xs vs := by
  cases r with
  | @ref _ a ha =>
    cases R.ok i a _ ha e with
    | lst h r => exact ⟨a, _, rfl, ha, h, r⟩
theorem Rp.dct {i : Nat} {v : V} {lk : Bool} {kvs : List (Ky × D)} (R : Rp T ρ h H) (r : RelD T ρ H (.ref i) v) (e : h[i]? = Option.some (.dct lk kvs)) :
    ∃ a m, v = .ref a ∧ ρ[i]? = Option.some a ∧ Rd H a (.dK m) ∧ KVs T ρ H kvs m ∧ (lk = false → H a = Option.some (.dK m)) := by
  cases r with
  | @ref _ a ha =>
    have k := R.ok i a _ ha e
    cases lk with
    | false =>
      cases k with
      | dct h r => exact ⟨a, _, rfl, ha, .inl h, r, fun _ => h⟩
    | true =>
      cases k with
      | dcl h r => exact ⟨a, _, rfl, ha, .inr ⟨_, h⟩, r, fun q => by cases q⟩
/-- what may be read as a list -/
def asL (h : Hh) : D → Option (List D)
  | .ref i => match h[i]? with
    | Option.some (.lst xs) => Option.some xs
    | Option.some (.fro xs) => Option.some xs
    | _ => Option.none
  | _ => Option.none
theorem Rp.asL {d : D} {v : V} {xs : List D} (R : Rp T ρ h H) (r : RelD T ρ H d v) (e : asL h d = Option.some xs) : ∃ a vs, v = .ref a ∧ SqL T.K H a vs ∧ RelDs T ρ H xs vs := by
  cases d with
  | ref i =>
    unfold Mi.asL at e
    cases r with
    | @ref _ a ha =>
      cases eo : h[i]? with
      | none => simp only [eo] at e; cases e
      | some o =>
        simp only [eo] at e
        have k := R.ok i a _ ha eo
        cases o with
        | lst ys =>
          cases e
          cases k with
          | lst h r => exact ⟨a, _, rfl, .inl (.inl h), r⟩
        | fro ys =>
          cases e
          cases k with
          | fro h r => exact ⟨a, _, rfl, .inl (.inr ⟨_, h⟩), r⟩
        | dct b ys => cases e
  | _ => cases e
theorem relT {xs : List D} {v : V} (r : RelD T ρ H (.tup xs) v) : ∃ a vs, v = .ref a ∧ H a = Option.some (.tup vs) ∧ RelDs T ρ H xs vs := by
  cases r with
  | tup h r => exact ⟨_, _, rfl, h, r⟩
theorem relI {i : Int} {v : V} (r : RelD T ρ H (.int i) v) : v = .int i := by cases r; rfl
theorem relB {i : Bool} {v : V} (r : RelD T ρ H (.bl i) v) : v = .bl i := by cases r; rfl
theorem relN {v : V} (r : RelD T ρ H .non v) : v = .non := by cases r; rfl
theorem relSt {l : List Nat} {v : V} (r : RelD T ρ H (.str l) v) : ∃ x : Str, v = .str x ∧ x.cps.toList = l := by
  cases r with
  | str h => exact ⟨_, rfl, h⟩
theorem str_len {x : Str} {l : List Nat} (h : x.cps.toList = l) : x.length = l.length := by
  rw [← h]; exact Array.length_toList.symm
theorem append_cps {x y : Str} : (x ++ y).cps.toList = x.cps.toList ++ y.cps.toList := Array.toList_append
end

/-! ### +, -, *, //, % -/
def addS : S2 := fun h x y => match x, y with
  | .int i, .int j => some (.int (i + j), h)
  | .str l, .str m => if l.length + m.length ≤ sizeLine then some (.str (l ++ m), h) else none
  | .tup xs, .tup ys => if xs.length + ys.length ≤ sizeLine then some (.tup (xs ++ ys), h) else none
  | .ref i, .ref j => (match h[i]?, h[j]? with
    | some (.lst xs), some (.lst ys) => if xs.length + ys.length ≤ sizeLine then some (.ref h.length, h ++ [.lst (xs ++ ys)]) else none
    | _, _ => none)
  | _, _ => none
def subS : S2 := fun h x y => match x, y with
  | .int i, .int j => some (.int (i - j), h)
  | _, _ => none
def mulS : S2 := fun h x y => match x, y with
  | .int i, .int j => if i.natAbs.log2 + j.natAbs.log2 < 1000000 then some (.int (i * j), h) else none
  | .str l, .int k => if l ≠ [] ∧ 2 ≤ k ∧ k ≤ 1000 ∧ l.length ≤ 1000 then some (.str (List.replicate k.toNat l).flatten, h) else none
  | .tup xs, .int k => if xs ≠ [] ∧ 2 ≤ k ∧ k ≤ 1000 ∧ xs.length ≤ 1000 then some (.tup (List.replicate k.toNat xs).flatten, h) else none
  | .ref i, .int k => (match h[i]? with
    | some (.lst xs) => if -(2 ^ 63) ≤ k ∧ k < 2 ^ 63 ∧ xs.length * k.toNat ≤ sizeLine then some (.ref h.length, h ++ [.lst (List.replicate k.toNat xs).flatten]) else none
    | _ => none)
  | _, _ => none
def powS : S2 := fun h x y => match x, y with
  | .int i, .int j => if 0 ≤ j ∧ ((i.natAbs.log2 + 1 : Nat) : Int) * j ≤ 2 ^ 27 then some (.int (i ^ j.toNat), h) else none
  | _, _ => none
def divS : S2 := fun h x y => match x, y with
  | .int i, .int j => if 0 < j ∧ j.natAbs.log2 < 9000 then some (.int (i / j), h) else none
  | _, _ => none
def modS : S2 := fun h x y => match x, y with
  | .int i, .int j => if 0 < j then some (.int (i % j), h) else none
  | _, _ => none
section
variable {X : Cx} {T : Tab}
theorem op_addS (hK : X.K = T.K) : OpR X (binaryOp .Add) (r2 T addS) := by
  intro pins s σ H x y v u Q I rx ry hr
  obtain ⟨ρ, h, d, e, R, rd, re, a⟩ := hr
  obtain ⟨z, h1, ez⟩ := a.ex
  unfold addS at ez a
  split at ez
  · next i j =>
    cases relI rd; cases relI re
    exact op_add pins s σ H _ _ v u Q I rx ry ⟨i, j, rfl, rfl, a.val R rfl (.int _)⟩
  · next l m =>
    obtain ⟨x', rfl, e1⟩ := relSt rd
    obtain ⟨y', rfl, e2⟩ := relSt re
    split at ez
    · next hl =>
      refine op_add_str pins s σ H _ _ v u Q I rx ry ⟨x', y', rfl, rfl, by rw [str_len e1, str_len e2]; exact hl, ?_⟩
      dsimp only at a
      rw [if_pos hl] at a
      exact a.val R rfl (.str (by rw [append_cps, e1, e2]))
    · cases ez
  · next xs ys =>
    obtain ⟨a1, vs, rfl, h2, r2⟩ := relT rd
    obtain ⟨a3, ws, rfl, h4, r4⟩ := relT re
    split at ez
    · next hl =>
      dsimp only at a
      rw [if_pos hl] at a
      refine op_catA pins s σ H _ _ v u Q I rx ry ⟨a1, a3, vs, ws, rfl, rfl, .of h2, .of h4, by rw [← r2.length, ← r4.length]; exact hl, fun q => ?_, fun _ q => ?_, fun _ _ => a.tup R rfl (r2.append r4)⟩
      · subst q
        cases r2
        exact a.val R rfl (.tup h4 r4)
      · subst q
        cases r4
        rw [List.append_nil] at a
        exact a.val R rfl (.tup h2 r2)
    · cases ez
  · next i j =>
    split at ez
    · next xs ys e1 e2 =>
      obtain ⟨p, vs, rfl, _, h2, r2⟩ := R.lst rd e1
      obtain ⟨q, ws, rfl, _, h4, r4⟩ := R.lst re e2
      split at ez
      · next hl =>
        dsimp only at a
        rw [e1, e2] at a
        dsimp only at a
        rw [if_pos hl] at a
        exact op_cat pins s σ H _ _ v u Q I rx ry ⟨p, q, vs, ws, rfl, rfl, h2, h4, by rw [← r2.length, ← r4.length]; exact hl, a.lst R rfl (r2.append r4)⟩
      · cases ez
    · cases ez
  · cases ez
theorem op_subS : OpR X (binaryOp .Sub) (r2 T subS) := by
  intro pins s σ H x y v u Q I rx ry hr
  obtain ⟨ρ, h, d, e, R, rd, re, a⟩ := hr
  obtain ⟨z, h1, ez⟩ := a.ex
  unfold subS at ez a
  split at ez
  · next i j =>
    cases relI rd; cases relI re
    exact op_sub pins s σ H _ _ v u Q I rx ry ⟨i, j, rfl, rfl, a.val R rfl (.int _)⟩
  · cases ez
theorem op_mulS (hK : X.K = T.K) : OpR X (binaryOp .Mult) (r2 T mulS) := by
  intro pins s σ H x y v u Q I rx ry hr
  obtain ⟨ρ, h, d, e, R, rd, re, a⟩ := hr
  obtain ⟨z, h1, ez⟩ := a.ex
  unfold mulS at ez a
  split at ez
  · next i j =>
    cases relI rd; cases relI re
    split at ez
    · next hc =>
      dsimp only at a
      rw [if_pos hc] at a
      exact op_mulW pins s σ H _ _ v u Q I rx ry ⟨i, j, rfl, rfl, hc, a.val R rfl (.int _)⟩
    · cases ez
  · next l k =>
    obtain ⟨z, rfl, e1⟩ := relSt rd
    cases relI re
    split at ez
    · next hc =>
      dsimp only at a
      rw [if_pos hc] at a
      obtain ⟨c1, c2, c3, c4⟩ := hc
      obtain ⟨t, rfl⟩ := rx
      obtain ⟨t2, rfl⟩ := ry
      have hzl : z.length = l.length := str_len e1
      have hl0 : l.length ≠ 0 := fun q => c1 (List.length_eq_zero_iff.mp q)
      have g : (k == 1 || z.length == 0) = false := by
        rw [Bool.or_eq_false_iff]
        exact ⟨beq_eq_false_iff_ne.mpr (by omega), beq_eq_false_iff_ne.mpr (by rw [hzl]; exact hl0)⟩
      refine P.mul_str (by rw [decide_eq_false (by omega), decide_eq_false (by omega)]; rfl) (fun _ _ hb => ?_) (fun _ _ => ?_) ?_
      · have hz1 : (z.length : Int) ≤ 1000 := by rw [hzl]; exact_mod_cast c4
        have : (1000 : Int) ≤ (2 ^ 63 - 1) / k := Int.le_ediv_of_mul_le (by omega) (by omega)
        omega
      · have : z.length * k.toNat ≤ 1000000 := by
          rw [hzl]
          exact Nat.le_trans (Nat.mul_le_mul c4 (show k.toNat ≤ 1000 by omega)) (by decide)
        exact decide_eq_false (by rw [sizeLine_eq]; omega)
      · rw [if_neg (by omega), g]
        have er : (⟨(List.replicate k.toNat z.cps).foldl (· ++ ·) #[]⟩ : Str).cps.toList = (List.replicate k.toNat l).flatten := by
          have gen : ∀ (n : Nat) (acc : Array Nat), ((List.replicate n z.cps).foldl (· ++ ·) acc).toList = acc.toList ++ (List.replicate n l).flatten := fun n => by
            induction n with
            | zero => intro acc; simp
            | succ n ih =>
              intro acc
              rw [List.replicate_succ, List.foldl_cons, ih, List.replicate_succ, List.flatten_cons, Array.toList_append, e1, List.append_assoc]
          have := gen k.toNat #[]
          simpa using this
        exact ⟨by
          show ((List.replicate k.toNat z.cps).foldl (· ++ ·) #[]).size ≤ sizeLine
          have e2 : ((List.replicate k.toNat z.cps).foldl (· ++ ·) #[]).size = (List.replicate k.toNat l).flatten.length := by rw [← er]; simp
          rw [e2, List.length_flatten, List.map_replicate, List.sum_replicate_nat, sizeLine_eq]
          exact Nat.le_trans (Nat.mul_le_mul (show k.toNat ≤ 1000 by omega) c4) (by decide), ⟨.str _, H, I.tok _, ⟨_, rfl⟩, a.val R rfl (.str er)⟩⟩
    · cases ez
  · next xs k =>
    obtain ⟨a1, vs, rfl, h2, r2⟩ := relT rd
    cases relI re
    split at ez
    · next hc =>
      dsimp only at a
      rw [if_pos hc] at a
      obtain ⟨c1, c2, c3, c4⟩ := hc
      refine op_repT pins s σ H _ _ v u Q I rx ry ⟨a1, k, vs, rfl, rfl, .of h2, ?_, c2, c3, by rw [← r2.length]; exact c4, a.tup R rfl (r2.rep _)⟩
      intro q; subst q; cases r2; exact c1 rfl
    · cases ez
  · next i k =>
    cases relI re
    split at ez
    · next xs e1 =>
      obtain ⟨p, vs, rfl, _, h2, r2⟩ := R.lst rd e1
      split at ez
      · next hc =>
        dsimp only at a
        rw [e1] at a
        dsimp only at a
        rw [if_pos hc] at a
        obtain ⟨c1, c2, c3⟩ := hc
        exact op_rep pins s σ H _ _ v u Q I rx ry ⟨p, k, vs, rfl, rfl, h2, c1, c2, by rw [← r2.length]; exact c3, a.lst R rfl (r2.rep _)⟩
      · cases ez
    · cases ez
  · cases ez
theorem op_powS : OpR X (binaryOp .Pow) (r2 T powS) := by
  intro pins s σ H x y v u Q I rx ry hr
  obtain ⟨ρ, h, d, e, R, rd, re, a⟩ := hr
  obtain ⟨z, h1, ez⟩ := a.ex
  unfold powS at ez a
  split at ez
  · next i j =>
    cases relI rd; cases relI re
    split at ez
    · next hc =>
      dsimp only at a
      rw [if_pos hc] at a
      obtain ⟨t, rfl⟩ := rx
      obtain ⟨t2, rfl⟩ := ry
      have hb : Builtin.Int.intBits i ≤ i.natAbs.log2 + 1 := by
        unfold Builtin.Int.intBits
        split <;> omega
      have hb2 : ((Builtin.Int.intBits i : Nat) : Int) * j ≤ ((i.natAbs.log2 + 1 : Nat) : Int) * j := Int.mul_le_mul_of_nonneg_right (by exact_mod_cast hb) hc.1
      exact pow_int hc.1 (Int.le_trans hb2 hc.2) ⟨.int _, H, I.tok _, ⟨_, rfl⟩, a.val R rfl (.int _)⟩
    · cases ez
  · cases ez
theorem op_divS : OpR X (binaryOp .FloorDiv) (r2 T divS) := by
  intro pins s σ H x y v u Q I rx ry hr
  obtain ⟨ρ, h, d, e, R, rd, re, a⟩ := hr
  obtain ⟨z, h1, ez⟩ := a.ex
  unfold divS at ez a
  split at ez
  · next i j =>
    cases relI rd; cases relI re
    split at ez
    · next hc =>
      dsimp only at a
      rw [if_pos hc] at a
      exact op_fdivW pins s σ H _ _ v u Q I rx ry ⟨i, j, rfl, rfl, hc, a.val R rfl (.int _)⟩
    · cases ez
  · cases ez
theorem op_modS : OpR X (binaryOp .Mod) (r2 T modS) := by
  intro pins s σ H x y v u Q I rx ry hr
  obtain ⟨ρ, h, d, e, R, rd, re, a⟩ := hr
  obtain ⟨z, h1, ez⟩ := a.ex
  unfold modS at ez a
  split at ez
  · next i j =>
    cases relI rd; cases relI re
    split at ez
    · next hc =>
      dsimp only at a
      rw [if_pos hc] at a
      exact op_mod pins s σ H _ _ v u Q I rx ry ⟨i, j, rfl, rfl, hc, a.val R rfl (.int _)⟩
    · cases ez
  · cases ez
end
end Mi

set_option Elab.async false
set_option linter.all false
set_option maxRecDepth 100000
set_option maxHeartbeats 1000000
/-! Mi: == of a dict and what is none. -/
namespace Mi
open PySem PySem.Spec PyProof.Rows PySem.SeqAt PySem.MeetsSeq
section
variable {prog : Program} {w : World} {A : Around} {E : Value → Shared → Prop} {s : Shared}
theorem dict_declines {l : Addr} {b : Value} {Tb : String} {Q : Value → Shared → Prop} (hl : s.TypeIs (.ref l) "dict") (hb : s.TypeIs b Tb) (hs : isSubtype (.type Tb) (.type "dict") = pure false) (h : Q Value.notImplemented s) :
    wpAny (model prog w) A (call (.builtin "dict.__eq__") [.ref l, b]) Q E s := by
  refine wpAny_call_entry PySem.F.slot_dict_eq hl PySem.F.entry_dict_eq ?_ (PySem.F.args_dict_eq_2 _ _)
  show wpAny _ _ (Builtin.Dict.dictSlotArgs "__eq__" ⟨[.ref l, b], []⟩ >>= _) _ _ s
  refine wpAny_bind ?_
  unfold Builtin.Dict.dictSlotArgs
  refine wpAny_bind (wpAny_notOrdered_dict hl ?_)
  show wpAny _ _ (pure (Value.ref l, b)) _ _ s
  refine wpAny_pure ?_
  refine wpAny_bind (wpAny_isInstance (T := Tb) hb hs ?_)
  simp only [Bool.not_false, if_true]
  exact wpAny_bind (wpAny_rule (wpAny_pure ⟨_, rfl, h⟩))
theorem dict_declines_ne {l : Addr} {b : Value} {Tb : String} {Q : Value → Shared → Prop} (hl : s.TypeIs (.ref l) "dict") (hb : s.TypeIs b Tb) (hs : isSubtype (.type Tb) (.type "dict") = pure false) (h : Q Value.notImplemented s) :
    wpAny (model prog w) A (call (.builtin "dict.__ne__") [.ref l, b]) Q E s := by
  refine wpAny_call_entry PySem.F.slot_dict_ne hl PySem.F.entry_dict_ne ?_ (PySem.F.args_dict_ne_2 _ _)
  show wpAny _ _ (Builtin.Dict.dictSlotArgs "__ne__" ⟨[.ref l, b], []⟩ >>= _) _ _ s
  refine wpAny_bind ?_
  unfold Builtin.Dict.dictSlotArgs
  refine wpAny_bind (wpAny_notOrdered_dict hl ?_)
  show wpAny _ _ (pure (Value.ref l, b)) _ _ s
  refine wpAny_pure ?_
  refine wpAny_bind (wpAny_isInstance (T := Tb) hb hs ?_)
  simp only [Bool.not_false, if_true]
  exact wpAny_bind (wpAny_rule (wpAny_pure ⟨_, rfl, h⟩))
end
theorem str_eq_declines_dict (b : Str) (u : Tok) (l : Addr) (es : Array DictEntry) (n : Nat) (dd : Option Addr) (sl : Array (Option Value)) :
    Meets (Builtin.«str.__eq__» ⟨[.str b u, .ref l], []⟩) (fun _ R s => s.heap.get? l = some { cls := .type "dict", dict := dd, data := .dict es n, slots := sl } ∧ R (.ok (.ret .notImplemented)) s) :=
  .of_wp fun prog w A R s h => by obtain ⟨hp, g, d, tk, os⟩ := s; obtain ⟨hl, h⟩ := h; wp_walk using wpAny_loadPart' hl, wpAny_load hl; exact ⟨_, rfl, h⟩
theorem str_ne_declines_dict (b : Str) (u : Tok) (l : Addr) (es : Array DictEntry) (n : Nat) (dd : Option Addr) (sl : Array (Option Value)) :
    Meets (Builtin.«str.__ne__» ⟨[.str b u, .ref l], []⟩) (fun _ R s => s.heap.get? l = some { cls := .type "dict", dict := dd, data := .dict es n, slots := sl } ∧ R (.ok (.ret .notImplemented)) s) :=
  .of_wp fun prog w A R s h => by obtain ⟨hp, g, d, tk, os⟩ := s; obtain ⟨hl, h⟩ := h; wp_walk using wpAny_loadPart' hl, wpAny_load hl; exact ⟨_, rfl, h⟩
section
variable {A : Around} {s : Shared}
/-- a plain dict's object -/
def IsDct (h : Heap) (l : Addr) : Prop := ∃ es n dd sl, h.get? l = some { cls := .type "dict", dict := dd, data := .dict es n, slots := sl }
theorem RcAt.dict_none {l : Addr} (hl : IsDct s.heap l) (hu : A.units < cLine) : RcAt A s (.ref l) .none false := fun prog w E Q h => by
  obtain ⟨es, n, dd, sl, ho⟩ := hl
  exact rc_eq_decline_or (k := false) ⟨_, ho, rfl⟩ rfl (by decide) PySem.F.sub_NoneType_dict PySem.F.slot_dict_eq PySem.F.slot_NoneType_eq_refl
    (fun _ hq => dict_declines ⟨_, ho, rfl⟩ rfl PySem.F.sub_NoneType_dict hq)
    (fun _ hq => call_gives PySem.F.slot_NoneType_eq_refl rfl PySem.F.entry_NoneType_eq (PySem.F.args_NoneType_eq_2 _ _) (NoneType___eq___none_ref_0 l) hq)
    (fun _ hq => wpAny_of_eq (rfl : isSame (.ref l) .none = pure false) hq) (.inr hu) h
theorem RcNeAt.dict_none {l : Addr} (hl : IsDct s.heap l) (hu : A.units < cLine) : RcNeAt A s (.ref l) .none true := fun prog w E Q h => by
  obtain ⟨es, n, dd, sl, ho⟩ := hl
  exact rc_ne_decline_or (k := false) ⟨_, ho, rfl⟩ rfl (by decide) PySem.F.sub_NoneType_dict PySem.F.slot_dict_ne PySem.F.slot_NoneType_ne_refl
    (fun _ hq => dict_declines_ne ⟨_, ho, rfl⟩ rfl PySem.F.sub_NoneType_dict hq)
    (fun _ hq => call_gives PySem.F.slot_NoneType_ne_refl rfl PySem.F.entry_NoneType_ne (PySem.F.args_NoneType_ne_2 _ _) (NoneType___ne___none_ref_0 l) hq)
    (fun _ hq => wpAny_of_eq (rfl : isSame (.ref l) .none = pure false) hq) (.inr hu) h
theorem RcAt.none_dict {l : Addr} (hl : IsDct s.heap l) (hu : A.units < cLine) : RcAt A s .none (.ref l) false := fun prog w E Q h => by
  obtain ⟨es, n, dd, sl, ho⟩ := hl
  exact rc_eq_decline_or (k := false) rfl ⟨_, ho, rfl⟩ (by decide) PySem.F.sub_dict_NoneType PySem.F.slot_NoneType_eq PySem.F.slot_dict_eq_refl
    (fun _ hq => call_gives PySem.F.slot_NoneType_eq rfl PySem.F.entry_NoneType_eq (PySem.F.args_NoneType_eq_2 _ _) (NoneType___eq___none_ref_0 l) hq)
    (fun _ hq => dict_declines ⟨_, ho, rfl⟩ rfl PySem.F.sub_NoneType_dict hq)
    (fun _ hq => wpAny_of_eq (rfl : isSame .none (.ref l) = pure false) hq) (.inr hu) h
theorem RcNeAt.none_dict {l : Addr} (hl : IsDct s.heap l) (hu : A.units < cLine) : RcNeAt A s .none (.ref l) true := fun prog w E Q h => by
  obtain ⟨es, n, dd, sl, ho⟩ := hl
  exact rc_ne_decline_or (k := false) rfl ⟨_, ho, rfl⟩ (by decide) PySem.F.sub_dict_NoneType PySem.F.slot_NoneType_ne PySem.F.slot_dict_ne_refl
    (fun _ hq => call_gives PySem.F.slot_NoneType_ne rfl PySem.F.entry_NoneType_ne (PySem.F.args_NoneType_ne_2 _ _) (NoneType___ne___none_ref_0 l) hq)
    (fun _ hq => dict_declines_ne ⟨_, ho, rfl⟩ rfl PySem.F.sub_NoneType_dict hq)
    (fun _ hq => wpAny_of_eq (rfl : isSame .none (.ref l) = pure false) hq) (.inr hu) h
theorem RcAt.dict_str {l : Addr} (b : Str) (u : Tok) (hl : IsDct s.heap l) (hu : A.units < cLine) : RcAt A s (.ref l) (.str b u) false := fun prog w E Q h => by
  obtain ⟨es, n, dd, sl, ho⟩ := hl
  exact rc_eq_decline_or (k := false) ⟨_, ho, rfl⟩ (typeIs_str s b u) (by decide) PySem.F.sub_str_dict PySem.F.slot_dict_eq PySem.F.slot_str_eq_refl
    (fun _ hq => dict_declines ⟨_, ho, rfl⟩ (typeIs_str s b u) PySem.F.sub_str_dict hq)
    (fun _ hq => call_meets PySem.F.slot_str_eq_refl (typeIs_str s b u) PySem.F.entry_str_eq (PySem.F.args_str_eq_2 _ _) (str_eq_declines_dict b u l es n dd sl) ⟨ho, hq⟩)
    (fun _ hq => wpAny_of_eq (rfl : isSame (.ref l) (.str b u) = pure false) hq) (.inr hu) h
theorem RcNeAt.dict_str {l : Addr} (b : Str) (u : Tok) (hl : IsDct s.heap l) (hu : A.units < cLine) : RcNeAt A s (.ref l) (.str b u) true := fun prog w E Q h => by
  obtain ⟨es, n, dd, sl, ho⟩ := hl
  exact rc_ne_decline_or (k := false) ⟨_, ho, rfl⟩ (typeIs_str s b u) (by decide) PySem.F.sub_str_dict PySem.F.slot_dict_ne PySem.F.slot_str_ne_refl
    (fun _ hq => dict_declines_ne ⟨_, ho, rfl⟩ (typeIs_str s b u) PySem.F.sub_str_dict hq)
    (fun _ hq => call_meets PySem.F.slot_str_ne_refl (typeIs_str s b u) PySem.F.entry_str_ne (PySem.F.args_str_ne_2 _ _) (str_ne_declines_dict b u l es n dd sl) ⟨ho, hq⟩)
    (fun _ hq => wpAny_of_eq (rfl : isSame (.ref l) (.str b u) = pure false) hq) (.inr hu) h
theorem RcAt.str_dict {l : Addr} (b : Str) (u : Tok) (hl : IsDct s.heap l) (hu : A.units < cLine) : RcAt A s (.str b u) (.ref l) false := fun prog w E Q h => by
  obtain ⟨es, n, dd, sl, ho⟩ := hl
  exact rc_eq_decline_or (k := false) (typeIs_str s b u) ⟨_, ho, rfl⟩ (by decide) PySem.F.sub_dict_str PySem.F.slot_str_eq PySem.F.slot_dict_eq_refl
    (fun _ hq => call_meets PySem.F.slot_str_eq (typeIs_str s b u) PySem.F.entry_str_eq (PySem.F.args_str_eq_2 _ _) (str_eq_declines_dict b u l es n dd sl) ⟨ho, hq⟩)
    (fun _ hq => dict_declines ⟨_, ho, rfl⟩ (typeIs_str s b u) PySem.F.sub_str_dict hq)
    (fun _ hq => wpAny_of_eq (rfl : isSame (.str b u) (.ref l) = pure false) hq) (.inr hu) h
theorem RcNeAt.str_dict {l : Addr} (b : Str) (u : Tok) (hl : IsDct s.heap l) (hu : A.units < cLine) : RcNeAt A s (.str b u) (.ref l) true := fun prog w E Q h => by
  obtain ⟨es, n, dd, sl, ho⟩ := hl
  exact rc_ne_decline_or (k := false) (typeIs_str s b u) ⟨_, ho, rfl⟩ (by decide) PySem.F.sub_dict_str PySem.F.slot_str_ne PySem.F.slot_dict_ne_refl
    (fun _ hq => call_meets PySem.F.slot_str_ne (typeIs_str s b u) PySem.F.entry_str_ne (PySem.F.args_str_ne_2 _ _) (str_ne_declines_dict b u l es n dd sl) ⟨ho, hq⟩)
    (fun _ hq => dict_declines_ne ⟨_, ho, rfl⟩ (typeIs_str s b u) PySem.F.sub_str_dict hq)
    (fun _ hq => wpAny_of_eq (rfl : isSame (.str b u) (.ref l) = pure false) hq) (.inr hu) h
theorem EqAt.dict_none {l : Addr} (hl : IsDct s.heap l) (hu : A.units < cLine) : EqAt A s (.ref l) .none false := fun prog w E Q h => by
  unfold eqBool
  refine wpAny_holding ?_
  refine wpAny_ite_split (fun hab => absurd (eq_of_beq hab) nofun) (fun _ => ?_)
  exact wpAny_bind (RcAt.dict_none hl hu prog w E _ (wpAny_truthy_bool h))
theorem EqAt.none_dict {l : Addr} (hl : IsDct s.heap l) (hu : A.units < cLine) : EqAt A s .none (.ref l) false := fun prog w E Q h => by
  unfold eqBool
  refine wpAny_holding ?_
  refine wpAny_ite_split (fun hab => absurd (eq_of_beq hab) nofun) (fun _ => ?_)
  exact wpAny_bind (RcAt.none_dict hl hu prog w E _ (wpAny_truthy_bool h))
theorem EqAt.dict_str {l : Addr} (b : Str) (u : Tok) (hl : IsDct s.heap l) (hu : A.units < cLine) : EqAt A s (.ref l) (.str b u) false := fun prog w E Q h => by
  unfold eqBool
  refine wpAny_holding ?_
  refine wpAny_ite_split (fun hab => absurd (eq_of_beq hab) nofun) (fun _ => ?_)
  exact wpAny_bind (RcAt.dict_str b u hl hu prog w E _ (wpAny_truthy_bool h))
theorem EqAt.str_dict {l : Addr} (b : Str) (u : Tok) (hl : IsDct s.heap l) (hu : A.units < cLine) : EqAt A s (.str b u) (.ref l) false := fun prog w E Q h => by
  unfold eqBool
  refine wpAny_holding ?_
  refine wpAny_ite_split (fun hab => absurd (eq_of_beq hab) nofun) (fun _ => ?_)
  exact wpAny_bind (RcAt.str_dict b u hl hu prog w E _ (wpAny_truthy_bool h))
end
end Mi

set_option Elab.async false
set_option linter.all false
set_option maxRecDepth 100000
set_option maxHeartbeats 1000000
/-! Mi: == and != over plain data. -/
namespace Mi
open PySem PySem.Spec PyProof.Rows L2

/-- what may be read as a dict -/
def asK (h : Hh) : D → Option (List (Ky × D))
  | .ref i => match h[i]? with
    | some (.dct _ kvs) => some kvs
    | _ => none
  | _ => none
/-- a list or a dict -/
def isLD (h : Hh) (i : Nat) : Option Bool := match asL h (.ref i), asK h (.ref i) with
  | none, none => none
  | _, _ => some false
def eqL (f : D → D → Option Bool) : List D → List D → Option Bool
  | x :: xs, y :: ys => match f x y, eqL f xs ys with
    | some a, some b => some (a && b)
    | _, _ => none
  | _, _ => some true
/-- x == y, by places n deep -/
def eqV (h : Hh) : Nat → D → D → Option Bool
  | 0, _, _ => none
  | n + 1, x, y => match x, y with
    | .non, .non => some true
    | .non, .bl _ => some false | .non, .int _ => some false | .non, .str _ => some false | .non, .tup _ => some false
    | .bl _, .non => some false | .int _, .non => some false | .str _, .non => some false | .tup _, .non => some false
    | .bl a, .bl b => some (a == b)
    | .bl a, .int j => some ((if a then 1 else 0) == j)
    | .int i, .bl b => some (i == (if b then 1 else 0))
    | .int i, .int j => some (i == j)
    | .str l, .str m => some (l == m)
    | .bl _, .str _ => some false | .bl _, .tup _ => some false | .int _, .str _ => some false | .int _, .tup _ => some false
    | .str _, .bl _ => some false | .tup _, .bl _ => some false | .str _, .int _ => some false | .tup _, .int _ => some false
    | .str _, .tup _ => some false | .tup _, .str _ => some false
    | .tup xs, .tup ys => (eqL (eqV h n) xs ys).map fun b => b && xs.length == ys.length
    | .ref i, .ref j => match asL h (.ref i), asL h (.ref j) with
      | some xs, some ys => if i = j then some true else if xs.length = ys.length then eqL (eqV h n) xs ys else some false
      | _, _ => none
    | .ref i, .non => isLD h i
    | .ref i, .bl _ => (asL h (.ref i)).map fun _ => false
    | .ref i, .int _ => (asL h (.ref i)).map fun _ => false
    | .ref i, .str _ => isLD h i
    | .ref i, .tup _ => (asL h (.ref i)).map fun _ => false
    | .non, .ref i => isLD h i
    | .bl _, .ref i => (asL h (.ref i)).map fun _ => false
    | .int _, .ref i => (asL h (.ref i)).map fun _ => false
    | .str _, .ref i => isLD h i
    | .tup _, .ref i => (asL h (.ref i)).map fun _ => false
    | _, _ => none
section
variable {T : Tab} {ρ : List Addr} {H : Hp} {h : Hh}
theorem Rp.notTup (R : Rp T ρ h H) {i : Nat} {a : Addr} (e : ρ[i]? = some a) {o : HO} (ho : H a = some o) (c : ¬ Chg o) : False := by
  obtain ⟨o', _, k⟩ := R.obj e
  obtain ⟨u, hu, cu⟩ := k.chg
  rw [ho] at hu; cases hu
  exact c cu
theorem eqL_same {f : D → D → Option Bool} (ih : ∀ d e v b, RelD T ρ H d v → RelD T ρ H e v → f d e = some b → b = true) : ∀ {ds es : List D} {vs : List V} {b : Bool}, RelDs T ρ H ds vs → RelDs T ρ H es vs → eqL f ds es = some b → b = true
  | _, _, _, _, .nil, .nil, e => by cases e; rfl
  | d :: ds, e :: es, v :: vs, b, .cons h t, .cons h' t', q => by
    unfold eqL at q
    split at q
    · next x y e1 e2 =>
      cases q
      rw [ih d e v x h h' e1, eqL_same ih t t' e2]; rfl
    · cases q
theorem eqV_same (R : Rp T ρ h H) : ∀ (n : Nat) (d e : D) (v : V) (b : Bool), RelD T ρ H d v → RelD T ρ H e v → eqV h n d e = some b → b = true
  | 0, _, _, _, _, _, _, q => by cases q
  | n + 1, d, e, v, b, r, r', q => by
    cases r with
    | non => cases r'; cases q; rfl
    | bl c => cases r'; unfold eqV at q; cases q; simp
    | int i => cases r'; unfold eqV at q; cases q; simp
    | str h1 =>
      cases r' with
      | str h2 => unfold eqV at q; cases q; rw [← h1, ← h2]; simp
    | @tup ds a vs ha t =>
      cases r' with
      | @tup es _ _ ha' t' =>
        rw [ha] at ha'; cases ha'
        unfold eqV at q
        dsimp only at q
        cases e1 : eqL (eqV h n) ds es with
        | none => rw [e1] at q; cases q
        | some c =>
          rw [e1] at q; cases q
          rw [eqL_same (eqV_same R n) t t' e1, t.length, t'.length]; simp
      | ref h2 => exact (R.notTup h2 ha (fun z => z)).elim
      | exn _ => unfold eqV at q; cases q
      | exf _ _ _ _ => unfold eqV at q; cases q
    | @ref i a ha =>
      cases r' with
      | @tup es _ _ ha' t' => exact (R.notTup ha ha' (fun z => z)).elim
      | @ref j _ ha' =>
        have h1 : i < ρ.length := (List.getElem?_eq_some_iff.mp ha).1
        have h2 : j < ρ.length := (List.getElem?_eq_some_iff.mp ha').1
        have e1 : ρ[i] = a := (List.getElem?_eq_some_iff.mp ha).2
        have e2 : ρ[j] = a := (List.getElem?_eq_some_iff.mp ha').2
        have : i = j := (List.getElem_inj R.nd).mp (e1.trans e2.symm)
        subst this
        unfold eqV at q
        dsimp only at q
        split at q
        · rw [if_pos rfl] at q; cases q; rfl
        · cases q
      | exn _ => unfold eqV at q; cases q
      | exf _ _ _ _ => unfold eqV at q; cases q
    | exn _ => unfold eqV at q; cases q
    | exf _ _ _ _ => unfold eqV at q; cases q
end
open PySem.SeqAt in
theorem isTuple_of {h : Heap} {a : Addr} {its : Array Value} (x : IsTup h a its) : h.IsTuple a its := x
section
open PySem.SeqAt
variable {X : Cx} {T : Tab} {ρ : List Addr} {H : Hp} {h : Hh} {pins : List (Addr × Obj)} {σ : L2.St} {s : Shared}
theorem beq_str {x y : Str} {l m : List Nat} (e1 : x.cps.toList = l) (e2 : y.cps.toList = m) : (l == m) = (x == y) := by
  rw [← e1, ← e2]; exact str_beq x y
theorem Rp.isList (hK : X.K = T.K) (I : Inv X pins σ H s) (R : Rp T ρ h H) {i : Nat} {v : V} {xs : List D} (r : RelD T ρ H (.ref i) v) (e : Mi.asL h (.ref i) = some xs) : ∃ a vs its, v = .ref a ∧ Vals vs its ∧ s.heap.IsList a its.toArray ∧ RelDs T ρ H xs vs := by
  obtain ⟨a, vs, rfl, hs, rs⟩ := R.asL r e
  rw [← hK] at hs
  obtain ⟨its, rv, pl, _⟩ := I.list hs
  exact ⟨a, vs, its, rfl, rv, pl.isList, rs⟩
theorem Rp.asK {d : D} {v : V} {kvs : List (Ky × D)} (R : Rp T ρ h H) (r : RelD T ρ H d v) (e : Mi.asK h d = some kvs) : ∃ a m, v = .ref a ∧ Rd H a (.dK m) ∧ KVs T ρ H kvs m := by
  cases d with
  | ref i =>
    unfold Mi.asK at e
    cases eo : h[i]? with
    | none => simp only [eo] at e; cases e
    | some o =>
      simp only [eo] at e
      cases o with
      | dct lk ks =>
        cases e
        obtain ⟨a, m, rfl, _, hd, hk, _⟩ := R.dct r eo
        exact ⟨a, m, rfl, hd, hk⟩
      | _ => cases e
  | _ => cases e
theorem dictObj (I : Inv X pins σ H s) {a : Addr} {m : List (Key × V)} (hd : Rd H a (.dK m)) : m.length ≤ sizeLine ∧ (a == sysModules) = false ∧ ∃ vs, KV m vs ∧ s.heap.DictOf (mixKind X.prog X.w) a vs := dk_rd I.hok hd
theorem Rp.isDct (I : Inv X pins σ H s) (R : Rp T ρ h H) {i : Nat} {v : V} {kvs : List (Ky × D)} (r : RelD T ρ H (.ref i) v) (e : Mi.asK h (.ref i) = some kvs) : ∃ a : Addr, v = .ref a ∧ IsDct s.heap a := by
  obtain ⟨a, m, rfl, hd, _⟩ := R.asK r e
  obtain ⟨_, _, vs, _, dd⟩ := dictObj I hd
  obtain ⟨o, es, ep, ho, hx, hda, _⟩ := dd
  obtain ⟨cls, dd, data, sl⟩ := o
  obtain ⟨h1, h2, h3⟩ := hx
  simp only at h1 h2 h3 hda
  subst h1 h2 h3 hda
  exact ⟨a, rfl, es, ep, none, _, ho⟩
theorem eqL_at {n : Nat} {A : Around} (ih : ∀ x y v w b u w', eqV h n x y = some b → RelD T ρ H x v → RelD T ρ H y w → RelV v u → RelV w w' → EqAt A s u w' b) : ∀ {xs ys : List D} {vs ws : List V} {us us' : List Value} {b : Bool}, eqL (eqV h n) xs ys = some b → RelDs T ρ H xs vs → RelDs T ρ H ys ws → Vals vs us → Vals ws us' →
    ∃ e : Nat → Bool, (∀ j (h1 : j < us.toArray.size) (h2 : j < us'.toArray.size), EqAt A s us.toArray[j] us'.toArray[j] (e j)) ∧ (List.range (min us.length us'.length)).all e = b
  | [], ys, vs, ws, us, us', b, q, r1, r2, r3, r4 => by
    cases r1; cases r3
    cases q
    exact ⟨fun _ => true, fun j h1 => absurd h1 (Nat.not_lt_zero j), by simp⟩
  | x :: xs, [], vs, ws, us, us', b, q, r1, r2, r3, r4 => by
    cases r2; cases r4
    cases q
    exact ⟨fun _ => true, fun j _ h1 => absurd h1 (Nat.not_lt_zero j), by simp⟩
  | x :: xs, y :: ys, _, _, _, _, b, q, .cons h1 t1, .cons h2 t2, .cons h3 t3, .cons h4 t4 => by
    unfold eqL at q
    split at q
    · next c d e1 e2 =>
      cases q
      obtain ⟨e, he, ha⟩ := eqL_at ih e2 t1 t2 t3 t4
      refine ⟨fun j => match j with | 0 => c | j + 1 => e j, fun j k1 k2 => ?_, ?_⟩
      · cases j with
        | zero => exact ih _ _ _ _ _ _ _ e1 h1 h2 h3 h4
        | succ j =>
          have z := he j (by simpa using k1) (by simpa using k2)
          simp only [List.getElem_toArray, List.getElem_cons_succ] at z ⊢
          exact z
      · rw [List.length_cons, List.length_cons, Nat.succ_min_succ, List.range_succ_eq_map, List.all_cons, List.all_map, ← ha]
        rfl
    · cases q
/-- == of two values, at the machine -/
theorem eqV_rc (hK : X.K = T.K) (I : Inv X pins σ H s) (R : Rp T ρ h H) : ∀ (n : Nat) (x y : D) (v w : V) (b : Bool) (u w' : Value) (A : Around), eqV h n x y = some b → RelD T ρ H x v → RelD T ρ H y w → RelV v u → RelV w w' → A.units + n < cLine → RcAt A s u w' b ∧ RcNeAt A s u w' (!b) ∧ EqAt A s u w' b
  | 0, _, _, _, _, _, _, _, _, q, _, _, _, _, _ => by cases q
  | n + 1, x, y, v, w, b, u, w', A, q, rx, ry, ru, rw', hu => by
    have hu0 : A.units < cLine := by omega
    have hin : A.in1.units + n < cLine := by show A.units + 1 + n < cLine; omega
    have ih : ∀ x y v w b u w', eqV h n x y = some b → RelD T ρ H x v → RelD T ρ H y w → RelV v u → RelV w w' → EqAt A.in1 s u w' b :=
      fun x y v w b u w' q r1 r2 r3 r4 => (eqV_rc hK I R n x y v w b u w' A.in1 q r1 r2 r3 r4 hin).2.2
    have tupl : ∀ {xs : List D} {v : V} {u : Value}, RelD T ρ H (.tup xs) v → RelV v u → ∃ a vs its, v = .ref a ∧ u = .ref a ∧ Vals vs its ∧ s.heap.IsTuple a its.toArray ∧ RelDs T ρ H xs vs := fun r q => by
      obtain ⟨a, vs, rfl, ha, rs⟩ := relT r
      obtain ⟨its, rv, it, _⟩ := I.tuple (.of ha)
      exact ⟨a, vs, its, rfl, q, rv, isTuple_of it, rs⟩
    have ld : ∀ {i : Nat} {c : Bool} {v : V} {u : Value}, isLD h i = some c → RelD T ρ H (.ref i) v → RelV v u → c = false ∧ ∃ a, u = .ref a ∧ ((∃ its, s.heap.IsList a its) ∨ IsDct s.heap a) := fun {i c v u} e r q => by
      unfold isLD at e
      cases e1 : asL h (.ref i) with
      | some xs =>
        rw [e1] at e; cases e
        obtain ⟨a, vs, its, rfl, _, il, _⟩ := R.isList hK I r e1
        exact ⟨rfl, a, q, .inl ⟨_, il⟩⟩
      | none =>
        cases e2 : asK h (.ref i) with
        | none => rw [e1, e2] at e; cases e
        | some kvs =>
          rw [e1, e2] at e; cases e
          obtain ⟨a, rfl, hd⟩ := R.isDct I r e2
          exact ⟨rfl, a, q, .inr hd⟩
    have lst : ∀ {i : Nat} {c : Bool} {v : V} {u : Value}, (asL h (.ref i)).map (fun _ => false) = some c → RelD T ρ H (.ref i) v → RelV v u → ∃ a its, u = .ref a ∧ s.heap.IsList a its ∧ c = false := fun {i c v u} e r q => by
      cases e1 : asL h (.ref i) with
      | none => rw [e1] at e; cases e
      | some xs =>
        rw [e1] at e; cases e
        obtain ⟨a, vs, its, rfl, _, il, _⟩ := R.isList hK I r e1
        exact ⟨a, _, q, il, rfl⟩
    unfold eqV at q
    split at q
    · cases relN rx; cases relN ry; cases ru; cases rw'; cases q; exact ⟨.none_none, .none_none, .same _⟩
    · cases relN rx; cases relB ry; cases ru; cases rw'; cases q; exact ⟨.none_bool _, .none_bool _, .none_bool _⟩
    · cases relN rx; cases relI ry; cases ru; obtain ⟨t, rfl⟩ := rw'; cases q; exact ⟨.none_int _ _, .none_int _ _, .none_int _ _⟩
    · cases relN rx; obtain ⟨z, rfl, _⟩ := relSt ry; cases ru; obtain ⟨t, rfl⟩ := rw'; cases q; exact ⟨.none_str _ _, .none_str _ _, .none_str _ _⟩
    · cases relN rx; obtain ⟨a, vs, its, rfl, rfl, _, it, _⟩ := tupl ry rw'; cases ru; cases q; exact ⟨.none_tuple it hu0, .none_tuple it hu0, .none_tuple it hu0⟩
    · cases relB rx; cases relN ry; cases ru; cases rw'; cases q; exact ⟨.bool_none _, .bool_none _, .bool_none _⟩
    · cases relI rx; cases relN ry; obtain ⟨t, rfl⟩ := ru; cases rw'; cases q; exact ⟨.int_none _ _, .int_none _ _, .int_none _ _⟩
    · obtain ⟨z, rfl, _⟩ := relSt rx; cases relN ry; obtain ⟨t, rfl⟩ := ru; cases rw'; cases q; exact ⟨.str_none _ _, .str_none _ _, .str_none _ _⟩
    · obtain ⟨a, vs, its, rfl, rfl, _, it, _⟩ := tupl rx ru; cases relN ry; cases rw'; cases q; exact ⟨.tuple_none it hu0, .tuple_none it hu0, .tuple_none it hu0⟩
    · cases relB rx; cases relB ry; cases ru; cases rw'; cases q; exact ⟨.bool_bool _ _, .bool_bool _ _, .bool_bool _ _⟩
    · cases relB rx; cases relI ry; cases ru; obtain ⟨t, rfl⟩ := rw'; cases q; exact ⟨.bool_int _ _ _, .bool_int _ _ _, .bool_int _ _ _⟩
    · cases relI rx; cases relB ry; obtain ⟨t, rfl⟩ := ru; cases rw'; cases q; exact ⟨.int_bool _ _ _, .int_bool _ _ _, .int_bool _ _ _⟩
    · cases relI rx; cases relI ry; obtain ⟨t, rfl⟩ := ru; obtain ⟨t', rfl⟩ := rw'; cases q; exact ⟨.int_int _ _ _ _, .int_int _ _ _ _, .int_int _ _ _ _⟩
    · obtain ⟨z, rfl, e1⟩ := relSt rx; obtain ⟨z', rfl, e2⟩ := relSt ry; obtain ⟨t, rfl⟩ := ru; obtain ⟨t', rfl⟩ := rw'; cases q; rw [beq_str e1 e2]; exact ⟨.str_str _ _ _ _, .str_str _ _ _ _, .str_str _ _ _ _⟩
    · cases relB rx; obtain ⟨z, rfl, _⟩ := relSt ry; cases ru; obtain ⟨t, rfl⟩ := rw'; cases q; exact ⟨.bool_str _ _ _, .bool_str _ _ _, .bool_str _ _ _⟩
    · cases relB rx; obtain ⟨a, vs, its, rfl, rfl, _, it, _⟩ := tupl ry rw'; cases ru; cases q; exact ⟨.bool_tuple _ it hu0, .bool_tuple _ it hu0, .bool_tuple _ it hu0⟩
    · cases relI rx; obtain ⟨z, rfl, _⟩ := relSt ry; obtain ⟨t, rfl⟩ := ru; obtain ⟨t', rfl⟩ := rw'; cases q; exact ⟨.int_str _ _ _ _, .int_str _ _ _ _, .int_str _ _ _ _⟩
    · cases relI rx; obtain ⟨a, vs, its, rfl, rfl, _, it, _⟩ := tupl ry rw'; obtain ⟨t, rfl⟩ := ru; cases q; exact ⟨.int_tuple _ _ it hu0, .int_tuple _ _ it hu0, .int_tuple _ _ it hu0⟩
    · obtain ⟨z, rfl, _⟩ := relSt rx; cases relB ry; obtain ⟨t, rfl⟩ := ru; cases rw'; cases q; exact ⟨.str_bool _ _ _, .str_bool _ _ _, .str_bool _ _ _⟩
    · obtain ⟨a, vs, its, rfl, rfl, _, it, _⟩ := tupl rx ru; cases relB ry; cases rw'; cases q; exact ⟨.tuple_bool _ it hu0, .tuple_bool _ it hu0, .tuple_bool _ it hu0⟩
    · obtain ⟨z, rfl, _⟩ := relSt rx; cases relI ry; obtain ⟨t, rfl⟩ := ru; obtain ⟨t', rfl⟩ := rw'; cases q; exact ⟨.str_int _ _ _ _, .str_int _ _ _ _, .str_int _ _ _ _⟩
    · obtain ⟨a, vs, its, rfl, rfl, _, it, _⟩ := tupl rx ru; cases relI ry; obtain ⟨t, rfl⟩ := rw'; cases q; exact ⟨.tuple_int _ _ it hu0, .tuple_int _ _ it hu0, .tuple_int _ _ it hu0⟩
    · obtain ⟨z, rfl, _⟩ := relSt rx; obtain ⟨a, vs, its, rfl, rfl, _, it, _⟩ := tupl ry rw'; obtain ⟨t, rfl⟩ := ru; cases q; exact ⟨.str_tuple _ _ it hu0, .str_tuple _ _ it hu0, .str_tuple _ _ it hu0⟩
    · obtain ⟨z, rfl, _⟩ := relSt ry; obtain ⟨a, vs, its, rfl, rfl, _, it, _⟩ := tupl rx ru; obtain ⟨t, rfl⟩ := rw'; cases q; exact ⟨.tuple_str _ _ it hu0, .tuple_str _ _ it hu0, .tuple_str _ _ it hu0⟩
    · next xs ys =>
      obtain ⟨a, vs, its, rfl, rfl, rv, it, rs⟩ := tupl rx ru
      obtain ⟨a', vs', its', rfl, rfl, rv', it', rs'⟩ := tupl ry rw'
      cases e1 : eqL (eqV h n) xs ys with
      | none => rw [e1] at q; cases q
      | some c =>
        have q0 : eqV h (n + 1) (.tup xs) (.tup ys) = some b := by unfold eqV; exact q
        rw [e1] at q; cases q
        obtain ⟨e, he, ha⟩ := eqL_at ih e1 rs rs' rv rv'
        have el : (its.toArray.size == its'.toArray.size) = (xs.length == ys.length) := by
          rw [List.size_toArray, List.size_toArray, ← rv.length, ← rv'.length, ← rs.length, ← rs'.length]
        have k1 : RcAt A s (.ref a) (.ref a') (c && xs.length == ys.length) := by
          have := RcAt.tuples it it' hu0 he
          rw [el, List.size_toArray, List.size_toArray, ha] at this
          exact this
        have k2 : RcNeAt A s (.ref a) (.ref a') (!(c && xs.length == ys.length)) := by
          have := RcNeAt.tuples it it' hu0 he
          rw [el, List.size_toArray, List.size_toArray, ha] at this
          exact this
        refine ⟨k1, k2, ?_⟩
        by_cases ea : a = a'
        · subst ea
          rw [eqV_same R (n + 1) _ _ _ _ rx ry q0]
          exact .same _
        · exact .of_refs ea k1
    · next i j =>
      have q0 := q
      split at q
      · next xs ys e1 e2 =>
        obtain ⟨a, vs, its, rfl, rv, il, rs⟩ := R.isList hK I rx e1
        obtain ⟨a', vs', its', rfl, rv', il', rs'⟩ := R.isList hK I ry e2
        cases ru; cases rw'
        by_cases ij : i = j
        · subst ij
          rw [if_pos rfl] at q; cases q
          rw [e1] at e2; cases e2
          have ea : a = a' := by
            cases rx with
            | ref h1 => cases ry with
              | ref h2 => rw [h1] at h2; exact Option.some.inj h2
          subst ea
          have he : ∀ j (h1 : j < its.toArray.size) (h2 : j < its.toArray.size), EqAt A.in1 s its.toArray[j] its.toArray[j] ((fun _ => true) j) := fun j _ _ => .same _
          have k1 := RcAt.lists (e := fun _ => true) il il rfl hu0 he
          have k2 := RcNeAt.lists (e := fun _ => true) il il rfl hu0 he
          have et : ((List.range its.toArray.size).all fun _ => true) = true := List.all_eq_true.mpr fun _ _ => rfl
          rw [et] at k1 k2
          exact ⟨k1, k2, .same _⟩
        · rw [if_neg ij] at q
          have ea : a ≠ a' := fun z => by
            subst z
            cases rx with
            | ref h1 => cases ry with
              | ref h2 =>
                have k1 : i < ρ.length := (List.getElem?_eq_some_iff.mp h1).1
                have k2 : j < ρ.length := (List.getElem?_eq_some_iff.mp h2).1
                have e1 : ρ[i] = a := (List.getElem?_eq_some_iff.mp h1).2
                have e2 : ρ[j] = a := (List.getElem?_eq_some_iff.mp h2).2
                exact ij ((List.getElem_inj R.nd).mp (e1.trans e2.symm))
          by_cases el : xs.length = ys.length
          · rw [if_pos el] at q
            obtain ⟨e, he, ha⟩ := eqL_at ih q rs rs' rv rv'
            have es : its.toArray.size = its'.toArray.size := by rw [List.size_toArray, List.size_toArray, ← rv.length, ← rv'.length, ← rs.length, ← rs'.length]; exact el
            have em : min its.length its'.length = its.toArray.size := by
              rw [List.size_toArray, List.size_toArray] at es
              rw [List.size_toArray, es, Nat.min_self]
            rw [em] at ha
            have k1 := RcAt.lists il il' es hu0 he
            have k2 := RcNeAt.lists il il' es hu0 he
            rw [ha] at k1 k2
            exact ⟨k1, k2, .of_refs ea k1⟩
          · rw [if_neg el] at q; cases q
            have es : (its.toArray.size != its'.toArray.size) = true := by
              rw [List.size_toArray, List.size_toArray, ← rv.length, ← rv'.length, ← rs.length, ← rs'.length]
              simpa using el
            have k1 := RcAt.lists_lengths (A := A) il il' es hu0
            exact ⟨k1, RcNeAt.lists_lengths il il' es hu0, .of_refs ea k1⟩
      · cases q
    · obtain ⟨rfl, a, rfl, ⟨its, il⟩ | il⟩ := ld q rx ru
      · cases relN ry; cases rw'; exact ⟨.list_none il hu0, .list_none il hu0, .list_none il hu0⟩
      · cases relN ry; cases rw'; exact ⟨RcAt.dict_none il hu0, RcNeAt.dict_none il hu0, EqAt.dict_none il hu0⟩
    · obtain ⟨a, its, rfl, il, rfl⟩ := lst q rx ru; cases relB ry; cases rw'; exact ⟨.list_bool _ il hu0, .list_bool _ il hu0, .list_bool _ il hu0⟩
    · obtain ⟨a, its, rfl, il, rfl⟩ := lst q rx ru; cases relI ry; obtain ⟨t, rfl⟩ := rw'; exact ⟨.list_int _ _ il hu0, .list_int _ _ il hu0, .list_int _ _ il hu0⟩
    · obtain ⟨rfl, a, rfl, ⟨its, il⟩ | il⟩ := ld q rx ru
      · obtain ⟨z, rfl, _⟩ := relSt ry; obtain ⟨t, rfl⟩ := rw'; exact ⟨.list_str _ _ il hu0, .list_str _ _ il hu0, .list_str _ _ il hu0⟩
      · obtain ⟨z, rfl, _⟩ := relSt ry; obtain ⟨t, rfl⟩ := rw'; exact ⟨RcAt.dict_str _ _ il hu0, RcNeAt.dict_str _ _ il hu0, EqAt.dict_str _ _ il hu0⟩
    · obtain ⟨a, its, rfl, il, rfl⟩ := lst q rx ru; obtain ⟨a', vs, its', rfl, rfl, _, it, _⟩ := tupl ry rw'; exact ⟨.list_tuple il it hu0, .list_tuple il it hu0, .list_tuple il it hu0⟩
    · obtain ⟨rfl, a, rfl, ⟨its, il⟩ | il⟩ := ld q ry rw'
      · cases relN rx; cases ru; exact ⟨.none_list il hu0, .none_list il hu0, .none_list il hu0⟩
      · cases relN rx; cases ru; exact ⟨RcAt.none_dict il hu0, RcNeAt.none_dict il hu0, EqAt.none_dict il hu0⟩
    · obtain ⟨a, its, rfl, il, rfl⟩ := lst q ry rw'; cases relB rx; cases ru; exact ⟨.bool_list _ il hu0, .bool_list _ il hu0, .bool_list _ il hu0⟩
    · obtain ⟨a, its, rfl, il, rfl⟩ := lst q ry rw'; cases relI rx; obtain ⟨t, rfl⟩ := ru; exact ⟨.int_list _ _ il hu0, .int_list _ _ il hu0, .int_list _ _ il hu0⟩
    · obtain ⟨rfl, a, rfl, ⟨its, il⟩ | il⟩ := ld q ry rw'
      · obtain ⟨z, rfl, _⟩ := relSt rx; obtain ⟨t, rfl⟩ := ru; exact ⟨.str_list _ _ il hu0, .str_list _ _ il hu0, .str_list _ _ il hu0⟩
      · obtain ⟨z, rfl, _⟩ := relSt rx; obtain ⟨t, rfl⟩ := ru; exact ⟨RcAt.str_dict _ _ il hu0, RcNeAt.str_dict _ _ il hu0, EqAt.str_dict _ _ il hu0⟩
    · obtain ⟨a, its, rfl, il, rfl⟩ := lst q ry rw'; obtain ⟨a', vs, its', rfl, rfl, _, it, _⟩ := tupl rx ru; exact ⟨.tuple_list it il hu0, .tuple_list it il hu0, .tuple_list it il hu0⟩
    · cases q
end
end Mi

set_option Elab.async false
set_option linter.all false
set_option maxRecDepth 100000
set_option maxHeartbeats 1000000
/-! Mi: comparisons, items, slices, methods. -/
namespace Mi
open PySem PySem.Spec PyProof.Rows L2

/-- no exception in it -/
def clean : D → Bool
  | .tup xs => cleans xs
  | .exn _ _ => false
  | _ => true
where cleans : List D → Bool
  | [] => true
  | x :: xs => clean x && cleans xs
section
variable {T : Tab} {ρ : List Addr} {H : Hp} {h : Hh}
mutual
theorem RelD.inj (R : Rp T ρ h H) : ∀ {d e : D} {v : V}, clean d = true → RelD T ρ H d v → RelD T ρ H e v → d = e
  | _, _, _, _, .non, r => by cases r; rfl
  | _, _, _, _, .bl b, r => by cases r; rfl
  | _, _, _, _, .int i, r => by cases r; rfl
  | _, _, _, _, .str h1, r => by
    cases r with
    | str h2 => rw [← h1, ← h2]
  | _, e, _, c, .tup ha t, r => by
    cases r with
    | tup ha' t' =>
      rw [ha] at ha'; cases ha'
      exact congrArg D.tup (RelDs.inj R c t t')
    | ref h2 => exact (R.notTup h2 ha (fun z => z)).elim
    | exn h2 => rw [ha] at h2; cases h2
    | exf h2 _ _ _ => rw [ha] at h2; cases h2
  | _, e, _, _, .ref (i := i) ha, r => by
    cases r with
    | tup ha' t' => exact (R.notTup ha ha' (fun z => z)).elim
    | @ref j _ ha' =>
      have h1 : i < ρ.length := (List.getElem?_eq_some_iff.mp ha).1
      have h2 : j < ρ.length := (List.getElem?_eq_some_iff.mp ha').1
      have e1 := (List.getElem?_eq_some_iff.mp ha).2
      have e2 := (List.getElem?_eq_some_iff.mp ha').2
      rw [(List.getElem_inj R.nd).mp (e1.trans e2.symm)]
    | exn h2 => exact (R.notTup ha h2 (fun z => z)).elim
    | exf h2 _ _ _ => exact (R.notTup ha h2 (fun z => z)).elim
  | _, _, _, c, .exn h1, _ => by cases c
  | _, _, _, c, .exf h1 _ _ _, _ => by cases c
theorem RelDs.inj (R : Rp T ρ h H) : ∀ {ds es : List D} {vs : List V}, clean.cleans ds = true → RelDs T ρ H ds vs → RelDs T ρ H es vs → ds = es
  | _, _, _, _, .nil, r => by cases r; rfl
  | _, _, _, c, .cons h1 t, r => by
    cases r with
    | cons h2 t' =>
      have c' := Bool.and_eq_true_iff.mp c
      rw [RelD.inj R c'.1 h1 h2, RelDs.inj R c'.2 t t']
end
/-- the equality with x of the items -/
def eqsWith (h : Hh) (x : D) : List D → Option (List Bool)
  | [] => some []
  | d :: ds => match eqV h 190 d x, eqsWith h x ds with
    | some b, some bs => if clean d then some (b :: bs) else none
    | _, _ => none
end
section
open PySem.SeqAt
variable {X : Cx} {T : Tab} {ρ : List Addr} {H : Hp} {h : Hh} {pins : List (Addr × Obj)} {σ : L2.St} {s : Shared}
theorem eqsWith_at {A : Around} (hK : X.K = T.K) (I : Inv X pins σ H s) (R : Rp T ρ h H) (hu : A.units + 190 < cLine) {x : D} {w : V} {w' : Value} (rx : RelD T ρ H x w) (rw' : RelV w w') :
    ∀ {ds : List D} {vs : List V} {us : List Value} {bs : List Bool}, eqsWith h x ds = some bs → RelDs T ρ H ds vs → Vals vs us →
      ∃ e : Value → Bool, (∀ u ∈ us, EqAt A s u w' (e u)) ∧ us.map e = bs ∧ ∀ (d : D) (v : V) (u : Value) b, eqV h 190 d x = some b → clean d = true → RelD T ρ H d v → RelV v u → u ∈ us → e u = b
  | [], _, _, _, e, .nil, .nil => by cases e; exact ⟨fun _ => true, fun _ hu => (by cases hu), rfl, fun _ _ _ _ _ _ _ _ hu => (by cases hu)⟩
  | d :: ds, v :: vs, u :: us, bs, e, .cons r1 t1, .cons r2 t2 => by
    unfold eqsWith at e
    split at e
    · next b bs' e1 e2 =>
      split at e
      · next hc =>
        cases e
        obtain ⟨f, hf, hm, hall⟩ := eqsWith_at hK I R hu rx rw' e2 t1 t2
        refine ⟨fun z => if z ∈ us then f z else b, fun z hz => ?_, ?_, fun d' v' u' b' q1 q2 q3 q4 q5 => ?_⟩
        · dsimp only
          by_cases hz' : z ∈ us
          · rw [if_pos hz']; exact hf z hz'
          · rw [if_neg hz']
            rcases List.mem_cons.mp hz with rfl | hz
            · exact (eqV_rc hK I R 190 _ _ _ _ _ _ _ A e1 r1 rx r2 rw' hu).2.2
            · exact absurd hz hz'
        · rw [List.map_cons]
          congr 1
          · by_cases hz' : u ∈ us
            · rw [if_pos hz']; exact hall d v u b e1 hc r1 r2 hz'
            · rw [if_neg hz']
          · rw [← hm]
            exact List.map_congr_left fun z hz => if_pos hz
        · dsimp only
          by_cases hz' : u' ∈ us
          · rw [if_pos hz']; exact hall d' v' u' b' q1 q2 q3 q4 hz'
          · rw [if_neg hz']
            rcases List.mem_cons.mp q5 with rfl | hz
            · have ev : v' = v := RelV.inj q4 r2
              subst ev
              have ed := RelD.inj R q2 q3 r1
              subst ed
              rw [q1] at e1
              exact (Option.some.inj e1).symm
            · exact absurd hz hz'
      · cases e
    · cases e
end

/-! ### ==, != -/
/-- two dicts by their values -/
def eqKs (h : Hh) (ls : List (Ky × D)) : List (Ky × D) → Option Bool
  | [] => some true
  | (k, d) :: r => match getKd ls k with
    | none => some false
    | some e => match eqV h 190 d e, eqKs h ls r with
      | some a, some b => some (a && b)
      | _, _ => none
def eqTop (h : Hh) (x y : D) : Option Bool := match asK h x, asK h y with
  | some ks, some ls => if ks.length = ls.length then eqKs h ls ks else some false
  | _, _ => eqV h 190 x y
def eqS : S2 := fun h x y => (eqTop h x y).map fun b => (.bl b, h)
def neS : S2 := fun h x y => (eqTop h x y).map fun b => (.bl (!b), h)
/-! ### order -/
def ltS : S2 := fun h x y => match x, y with
  | .int i, .int j => some (.bl (decide (i < j)), h)
  | .str l, .str m => some (.bl (decide (l < m)), h)
  | _, _ => none
def leS : S2 := fun h x y => match x, y with
  | .int i, .int j => some (.bl (decide (i ≤ j)), h)
  | _, _ => none
def gtS : S2 := fun h x y => match x, y with
  | .int i, .int j => some (.bl (decide (j < i)), h)
  | _, _ => none
def geS : S2 := fun h x y => match x, y with
  | .int i, .int j => some (.bl (decide (j ≤ i)), h)
  | _, _ => none
/-! ### is None -/
def isNonD : D → Bool
  | .non => true
  | _ => false
def isS : S2 := fun h x y => match y with
  | .non => some (.bl (isNonD x), h)
  | _ => none
def isntS : S2 := fun h x y => match y with
  | .non => some (.bl (!isNonD x), h)
  | _ => none
/-! ### in -/
def inV (h : Hh) (x y : D) : Option Bool := match y with
  | .str m => (match x with
    | .str [c] => some (decide (c ∈ m))
    | _ => none)
  | .tup ys => (eqsWith h x ys).map fun bs => bs.any id
  | .ref _ => match asK h y with
    | some kvs => (x.ky).map fun k => (getKd kvs k).isSome
    | none => match asL h y with
      | some ys => (eqsWith h x ys).map fun bs => bs.any id
      | none => none
  | _ => none
def inS : S2 := fun h x y => (inV h x y).map fun b => (.bl b, h)
def notInS : S2 := fun h x y => (inV h x y).map fun b => (.bl (!b), h)
section
open PySem.SeqAt
variable {X : Cx} {T : Tab} {ρ : List Addr} {H : Hp} {h : Hh} {pins : List (Addr × Obj)} {σ : L2.St} {s : Shared}
theorem eqKs_at {A : Around} (hK : X.K = T.K) (I : Inv X pins σ H s) (R : Rp T ρ h H) (hu : A.units + 190 < cLine) {ls : List (Ky × D)} {m : List (Key × V)} {vb : List (Key × Value)} (rl : KVs T ρ H ls m) (rb : KV m vb) :
    ∀ {ks : List (Ky × D)} {m' : List (Key × V)} {va : List (Key × Value)} {b : Bool}, eqKs h ls ks = some b → KVs T ρ H ks m' → KV m' va → PySem.W.KeqHits A s vb va b
  | [], _, _, _, e, .nil, .nil => by cases e; exact .nil
  | (k, d) :: ks, (q, v) :: m', (q', u) :: va, b, e, .cons hk hd t, .cons hp t' => by
    obtain ⟨e0, rv⟩ := hp
    have e0' : q = q' := e0
    subst e0'
    unfold eqKs at e
    cases eg : getKd ls k with
    | none =>
      rw [eg] at e
      cases e
      have hn := (rl.get hk).2 eg
      have hz := rb.val q
      rw [hn] at hz
      exact .miss hz.none_of
    | some d' =>
      rw [eg] at e
      dsimp only at e
      split at e
      · next a b' e1 e2 =>
        cases e
        obtain ⟨v', hv', rd'⟩ := (rl.get hk).1 d' eg
        have hz := rb.val q
        rw [hv'] at hz
        obtain ⟨u', hu', ru'⟩ := hz.some_of
        exact .hit hu' (eqV_rc hK I R 190 _ _ _ _ _ _ _ A e1 hd rd' rv ru' hu).2.2 (eqKs_at hK I R hu rl rb e2 t t')
      · cases e
theorem eqTop_run (hK : X.K = T.K) (hu : X.A.units + 200 < cLine) (I : Inv X pins σ H s) (R : Rp T ρ h H) {x y : D} {v w : V} {u w' : Value} {b : Bool} (e : eqTop h x y = some b) (rx : RelD T ρ H x v) (ry : RelD T ρ H y w) (ru : RelV v u) (rw' : RelV w w') :
    (∀ Q : Value → Shared → Prop, Q (.bool b) s → wpAny (model X.prog X.w) X.A (compareOp .Eq u w') Q X.xe s) ∧ (∀ Q : Value → Shared → Prop, Q (.bool (!b)) s → wpAny (model X.prog X.w) X.A (compareOp .NotEq u w') Q X.xe s) := by
  unfold eqTop at e
  split at e
  · next ks ls e1 e2 =>
    obtain ⟨a, m, rfl, hd, rk⟩ := R.asK rx e1
    obtain ⟨a', m', rfl, hd', rk'⟩ := R.asK ry e2
    obtain rfl : u = Value.ref a := ru
    obtain rfl : w' = Value.ref a' := rw'
    obtain ⟨_, ya, va, ra, da⟩ := dictObj I hd
    obtain ⟨_, yb, vb, rb, db⟩ := dictObj I hd'
    have hin : X.A.in1.units + 190 < cLine := by show X.A.units + 1 + 190 < cLine; omega
    have hla : va.length = ks.length := by rw [← ra.length, ← rk.length]
    have hlb : vb.length = ls.length := by rw [← rb.length, ← rk'.length]
    by_cases el : ks.length = ls.length
    · rw [if_pos el] at e
      have hits := eqKs_at (A := X.A.in1) hK I R hin rk' rb e rk ra
      have ee : (va.length == vb.length && b) = b := by rw [hla, hlb, el]; simp
      exact ⟨fun Q q => PySem.W.keq_eq (knd := mixKind X.prog X.w) ya yb da db (by omega) (fun _ => hits) (by rw [ee]; exact q),
        fun Q q => PySem.W.keq_ne (knd := mixKind X.prog X.w) ya yb da db (by omega) (fun _ => hits) (by rw [ee]; exact q)⟩
    · rw [if_neg el] at e
      cases e
      have el' : ¬ va.length = vb.length := by rw [hla, hlb]; exact el
      have ee : (va.length == vb.length && true) = false := by simp [el']
      exact ⟨fun Q q => PySem.W.keq_eq (knd := mixKind X.prog X.w) (r := true) ya yb da db (by omega) (fun z => absurd z el') (by rw [ee]; exact q),
        fun Q q => PySem.W.keq_ne (knd := mixKind X.prog X.w) (r := true) ya yb da db (by omega) (fun z => absurd z el') (by rw [ee]; exact q)⟩
  · have z := eqV_rc hK I R 190 _ _ _ _ _ _ _ X.A e rx ry ru rw' (by omega)
    exact ⟨fun Q q => z.1 _ _ _ Q q, fun Q q => z.2.1 _ _ _ Q q⟩
theorem op_eqS (hK : X.K = T.K) (hu : X.A.units + 200 < cLine) : OpR X (compareOp .Eq) (r2 T eqS) := by
  intro pins s σ H x y v u Q I rx ry hr
  obtain ⟨ρ, h, d, e, R, rd, re, a⟩ := hr
  obtain ⟨z, h1, ez⟩ := a.ex
  unfold eqS at ez a
  cases et : eqTop h d e with
  | none => rw [et] at ez; cases ez
  | some b =>
    rw [et] at a
    exact (eqTop_run hK hu I R et rd re rx ry).1 _ ⟨.bl b, H, I, rfl, a.val R rfl (.bl b)⟩
theorem op_neS (hK : X.K = T.K) (hu : X.A.units + 200 < cLine) : OpR X (compareOp .NotEq) (r2 T neS) := by
  intro pins s σ H x y v u Q I rx ry hr
  obtain ⟨ρ, h, d, e, R, rd, re, a⟩ := hr
  obtain ⟨z, h1, ez⟩ := a.ex
  unfold neS at ez a
  cases et : eqTop h d e with
  | none => rw [et] at ez; cases ez
  | some b =>
    rw [et] at a
    exact (eqTop_run hK hu I R et rd re rx ry).2 _ ⟨.bl (!b), H, I, rfl, a.val R rfl (.bl (!b))⟩
theorem op_ltS : OpR X (compareOp .Lt) (r2 T ltS) := by
  intro pins s σ H x y v u Q I rx ry hr
  obtain ⟨ρ, h, d, e, R, rd, re, a⟩ := hr
  obtain ⟨z, h1, ez⟩ := a.ex
  unfold ltS at ez a
  split at ez
  · cases relI rd; cases relI re
    exact op_lt pins s σ H _ _ v u Q I rx ry ⟨_, _, rfl, rfl, a.val R rfl (.bl _)⟩
  · obtain ⟨x', rfl, e1⟩ := relSt rd
    obtain ⟨y', rfl, e2⟩ := relSt re
    refine op_lt_str pins s σ H _ _ v u Q I rx ry ⟨_, _, rfl, rfl, ?_⟩
    rw [e1, e2]
    exact a.val R rfl (.bl _)
  · cases ez
theorem op_leS : OpR X (compareOp .LtE) (r2 T leS) := by
  intro pins s σ H x y v u Q I rx ry hr
  obtain ⟨ρ, h, d, e, R, rd, re, a⟩ := hr
  obtain ⟨z, h1, ez⟩ := a.ex
  unfold leS at ez a
  split at ez
  · cases relI rd; cases relI re
    exact op_le pins s σ H _ _ v u Q I rx ry ⟨_, _, rfl, rfl, a.val R rfl (.bl _)⟩
  · cases ez
theorem op_gtS : OpR X (compareOp .Gt) (r2 T gtS) := by
  intro pins s σ H x y v u Q I rx ry hr
  obtain ⟨ρ, h, d, e, R, rd, re, a⟩ := hr
  obtain ⟨z, h1, ez⟩ := a.ex
  unfold gtS at ez a
  split at ez
  · cases relI rd; cases relI re
    exact op_gt pins s σ H _ _ v u Q I rx ry ⟨_, _, rfl, rfl, a.val R rfl (.bl _)⟩
  · cases ez
theorem op_geS : OpR X (compareOp .GtE) (r2 T geS) := by
  intro pins s σ H x y v u Q I rx ry hr
  obtain ⟨ρ, h, d, e, R, rd, re, a⟩ := hr
  obtain ⟨z, h1, ez⟩ := a.ex
  unfold geS at ez a
  split at ez
  · cases relI rd; cases relI re
    exact op_ge pins s σ H _ _ v u Q I rx ry ⟨_, _, rfl, rfl, a.val R rfl (.bl _)⟩
  · cases ez
theorem isNonD_iff {d : D} {v : V} (r : RelD T ρ H d v) : isNonD d = decide (v = .non) := by
  cases r <;> first | rfl | (symm; exact decide_eq_false (fun q => by cases q))
theorem op_isS : OpR X (compareOp .Is) (r2 T isS) := by
  intro pins s σ H x y v u Q I rx ry hr
  obtain ⟨ρ, h, d, e, R, rd, re, a⟩ := hr
  obtain ⟨z, h1, ez⟩ := a.ex
  unfold isS at ez a
  split at ez
  · cases relN re
    refine op_isN pins s σ H _ _ v u Q I rx ry ⟨rfl, ?_⟩
    rw [← isNonD_iff rd]
    exact a.val R rfl (.bl _)
  · cases ez
theorem op_isntS : OpR X (compareOp .IsNot) (r2 T isntS) := by
  intro pins s σ H x y v u Q I rx ry hr
  obtain ⟨ρ, h, d, e, R, rd, re, a⟩ := hr
  obtain ⟨z, h1, ez⟩ := a.ex
  unfold isntS at ez a
  split at ez
  · cases relN re
    refine op_notN pins s σ H _ _ v u Q I rx ry ⟨rfl, ?_⟩
    rw [← isNonD_iff rd]
    exact a.val R rfl (.bl _)
  · cases ez
theorem any_map {us : List Value} {e : Value → Bool} {bs : List Bool} (h : us.map e = bs) : us.toArray.any e = bs.any id := by
  rw [← h, List.any_toArray, List.any_map]; rfl
theorem in_run (hK : X.K = T.K) (hu : X.A.units + 200 < cLine) (I : Inv X pins σ H s) (R : Rp T ρ h H) {x y : D} {v w : V} {u w' : Value} {b : Bool} (e : inV h x y = some b) (rx : RelD T ρ H x v) (ry : RelD T ρ H y w) (ru : RelV v u) (rw' : RelV w w') :
    (∀ Q : Value → Shared → Prop, (∀ s', Inv X pins σ H s' → Q (.bool b) s') → wpAny (model X.prog X.w) X.A (compareOp .In u w') Q X.xe s) ∧ (∀ Q : Value → Shared → Prop, (∀ s', Inv X pins σ H s' → Q (.bool (!b)) s') → wpAny (model X.prog X.w) X.A (compareOp .NotIn u w') Q X.xe s) := by
  have hin : X.A.in1.units + 190 < cLine := by show X.A.units + 1 + 190 < cLine; omega
  unfold inV at e
  split at e
  · next m =>
    split at e
    · next c =>
      cases e
      obtain ⟨x', rfl, e1⟩ := relSt rx
      obtain ⟨y', rfl, e2⟩ := relSt ry
      obtain rfl : x' = ⟨#[c]⟩ := str_ext (by rw [e1])
      obtain ⟨t, rfl⟩ := ru
      obtain ⟨t', rfl⟩ := rw'
      rw [← e2]
      exact ⟨fun Q q => PyProof.Rows.in_str (by rw [show (!(Builtin.Str.occurrences y' ⟨#[c]⟩ 0 y'.length 1).isEmpty) = decide (c ∈ y'.cps.toList) from PySem.StrLaws.found_one y' c]; exact q s I),
        fun Q q => PyProof.Rows.notIn_str (by rw [show (!(Builtin.Str.occurrences y' ⟨#[c]⟩ 0 y'.length 1).isEmpty) = decide (c ∈ y'.cps.toList) from PySem.StrLaws.found_one y' c]; exact q s I)⟩
    · cases e
  · next ys =>
    cases ee : eqsWith h x ys with
    | none => rw [ee] at e; cases e
    | some bs =>
      rw [ee] at e; cases e
      obtain ⟨a, vs, rfl, ha, rs⟩ := relT ry
      obtain rfl : w' = Value.ref a := rw'
      obtain ⟨its, rv, it, _⟩ := I.tuple (.of ha)
      obtain ⟨f, hf, hm, _⟩ := eqsWith_at (A := X.A.in1) hK I R hin rx ru ee rs rv
      have hf' : ∀ y, y ∈ its.toArray → EqAt X.A.in1 s y u (f y) := fun y hy => hf y (by simpa using hy)
      exact ⟨fun Q q => in_tupleAt f (isTuple_of it) hf' (by rw [any_map hm]; exact q s I), fun Q q => notIn_tupleAt f (isTuple_of it) hf' (by rw [any_map hm]; exact q s I)⟩
  · next i =>
    split at e
    · next kvs ek =>
      cases ex : x.ky with
      | none => rw [ex] at e; cases e
      | some k =>
        rw [ex] at e; cases e
        obtain ⟨a, m, rfl, hd, rk⟩ := R.asK ry ek
        obtain rfl : w' = Value.ref a := rw'
        obtain ⟨q', hq, rfl⟩ := KyR.of rx ex
        have g : DGet H a (kV q') (valV m q') := .inl ⟨m, q', hd, rfl, rfl⟩
        dsimp only
        rw [← rk.some_iff hq]
        exact ⟨fun Q q => d_in (by omega) I g ru q, fun Q q => d_notIn (by omega) I g ru q⟩
    · split at e
      · next ys ey =>
        cases ee : eqsWith h x ys with
        | none => rw [ee] at e; cases e
        | some bs =>
          rw [ee] at e; cases e
          obtain ⟨a, vs, its, rfl, rv, il, rs⟩ := R.isList hK I ry ey
          obtain rfl : w' = Value.ref a := rw'
          obtain ⟨f, hf, hm, _⟩ := eqsWith_at (A := X.A.in1) hK I R hin rx ru ee rs rv
          have hf' : ∀ y, y ∈ its.toArray → EqAt X.A.in1 s y u (f y) := fun y hy => hf y (by simpa using hy)
          exact ⟨fun Q q => in_listAt f il hf' (by rw [any_map hm]; exact q s I), fun Q q => notIn_listAt f il hf' (by rw [any_map hm]; exact q s I)⟩
      · cases e
  · cases e
theorem op_inS (hK : X.K = T.K) (hu : X.A.units + 200 < cLine) : OpR X (compareOp .In) (r2 T inS) := by
  intro pins s σ H x y v u Q I rx ry hr
  obtain ⟨ρ, h, d, e, R, rd, re, a⟩ := hr
  obtain ⟨z, h1, ez⟩ := a.ex
  unfold inS at ez a
  cases et : inV h d e with
  | none => rw [et] at ez; cases ez
  | some b =>
    rw [et] at a
    exact (in_run hK hu I R et rd re rx ry).1 _ fun s' I' => ⟨.bl b, H, I', rfl, a.val R rfl (.bl b)⟩
theorem op_notInS (hK : X.K = T.K) (hu : X.A.units + 200 < cLine) : OpR X (compareOp .NotIn) (r2 T notInS) := by
  intro pins s σ H x y v u Q I rx ry hr
  obtain ⟨ρ, h, d, e, R, rd, re, a⟩ := hr
  obtain ⟨z, h1, ez⟩ := a.ex
  unfold notInS at ez a
  cases et : inV h d e with
  | none => rw [et] at ez; cases ez
  | some b =>
    rw [et] at a
    exact (in_run hK hu I R et rd re rx ry).2 _ fun s' I' => ⟨.bl (!b), H, I', rfl, a.val R rfl (.bl (!b))⟩
end
end Mi

set_option Elab.async false
set_option linter.all false
set_option maxRecDepth 100000
set_option maxHeartbeats 1000000
/-! Mi: items, slices, truth, lengths, isinstance, methods. -/
namespace Mi
open PySem PySem.Spec PyProof.Rows L2

/-! ### kinds -/
inductive Ty where
  | non | bl | int | str | tup | lst | dct
  deriving DecidableEq
def Ty.name : Ty → String
  | .non => "NoneType" | .bl => "bool" | .int => "int" | .str => "str" | .tup => "tuple" | .lst => "list" | .dct => "dict"
def tyD (h : Hh) : D → Option Ty
  | .non => some .non
  | .bl _ => some .bl
  | .int _ => some .int
  | .str _ => some .str
  | .tup _ => some .tup
  | .ref i => match h[i]? with
    | some (.lst _) => some .lst
    | some (.fro _) => some .lst
    | some (.dct false _) => some .dct
    | _ => none
  | .exn _ _ => none
def isTy (a b : Ty) : Bool := a == b || (a == .bl && b == .int)
theorem isTy_kit : ∀ a b : Ty, b ≠ .non → kitB a.name b.name = some (isTy a b) := by
  intro a b hb
  cases b <;> first | exact absurd rfl hb | (cases a <;> decide +kernel)

/-! ### items -/
def ixS : S2 := fun h x y => match x with
  | .str l => (match y with
    | .int i => if l.length ≤ sizeLine then (atI l i).map fun c => (.str [c], h) else none
    | _ => none)
  | .tup xs => (match y with
    | .int i => (atI xs i).map fun d => (d, h)
    | _ => none)
  | .ref _ => match asK h x with
    | some kvs => y.ky.bind fun k => (getKd kvs k).map fun d => (d, h)
    | none => match asL h x, y with
      | some xs, .int i => (atI xs i).map fun d => (d, h)
      | _, _ => none
  | _ => none
section
variable {T : Tab} {ρ : List Addr} {H : Hp} {h : Hh}
theorem atI_rel {ds : List D} {vs : List V} {i : Int} {d : D} (r : RelDs T ρ H ds vs) (e : atI ds i = some d) : ∃ v, atI vs i = some v ∧ RelD T ρ H d v := by
  unfold atI at e ⊢
  rw [← r.length]
  cases ei : ixN ds.length i with
  | none => rw [ei] at e; cases e
  | some j =>
    rw [ei] at e
    exact r.get e
end
section
variable {X : Cx} {T : Tab}
theorem ix_ixS (hK : X.K = T.K) (hu : X.A.units + 200 < cLine) : IxR X (r2 T ixS) := by
  intro value slice pins s σ H x y v u Q I rx ry hr hs
  obtain ⟨ρ, h, d, e, R, rd, re, a⟩ := hr
  obtain ⟨z, h1, ez⟩ := a.ex
  unfold ixS at ez a
  cases d with
  | str l =>
    cases e with
    | int i =>
      dsimp only at ez a
      by_cases hl : l.length ≤ sizeLine
      · rw [if_pos hl] at ez a
        cases ea : atI l i with
        | none => rw [ea] at ez; cases ez
        | some c =>
          rw [ea] at a
          obtain ⟨z', rfl, e1⟩ := relSt rd
          cases relI re
          exact ix_str value slice pins s σ H _ _ v u Q I rx ry ⟨z', i, c, rfl, rfl, by rw [str_len e1]; exact hl, by rw [e1]; exact ea, a.val R rfl (.str rfl)⟩ hs
      · rw [if_neg hl] at ez; cases ez
    | _ => cases ez
  | tup xs =>
    cases e with
    | int i =>
      dsimp only at ez a
      cases ea : atI xs i with
      | none => rw [ea] at ez; cases ez
      | some c =>
        rw [ea] at a
        obtain ⟨p, vs, rfl, hp, rs⟩ := relT rd
        cases relI re
        obtain ⟨w, ew, rw'⟩ := atI_rel rs ea
        exact ix_tup value slice pins s σ H _ _ v u Q I rx ry ⟨p, vs, i, w, rfl, rfl, .of hp, ew, a.val R rfl rw'⟩ hs
    | _ => cases ez
  | ref i =>
    dsimp only at ez a
    cases ek : asK h (.ref i) with
    | some kvs =>
      rw [ek] at ez a
      dsimp only at ez a
      cases ey : e.ky with
      | none => rw [ey] at ez; cases ez
      | some k =>
        rw [ey] at ez a
        dsimp only [Option.bind] at ez a
        cases eg : getKd kvs k with
        | none => rw [eg] at ez; cases ez
        | some d =>
          rw [eg] at a
          obtain ⟨p, m, rfl, hd, rk⟩ := R.asK rd ek
          obtain ⟨q', hq, rfl⟩ := KyR.of re ey
          obtain ⟨w, hw, rw'⟩ := (rk.get hq).1 d eg
          obtain rfl : v = Value.ref p := rx
          obtain ⟨_, _, vs, _, dd⟩ := dictObj I hd
          exact tail_any dd.typeIs PySem.F.slot_dict_getitem.lookup (d_getItem (by omega) I (.inl ⟨m, q', hd, rfl, hw.symm⟩) ry fun w' s' I' rw2 => ⟨w, H, I', rw2, a.val R rfl rw'⟩) hs
    | none =>
      rw [ek] at ez a
      dsimp only at ez a
      cases el : asL h (.ref i) with
      | none => rw [el] at ez; cases ez
      | some xs =>
        cases e with
        | int j =>
          rw [el] at ez a
          dsimp only at ez a
          cases ea : atI xs j with
          | none => rw [ea] at ez; cases ez
          | some c =>
            rw [ea] at a
            obtain ⟨p, vs, rfl, hp, rs⟩ := R.asL rd el
            cases relI re
            obtain ⟨w, ew, rw'⟩ := atI_rel rs ea
            exact ix_list value slice pins s σ H _ _ v u Q I rx ry ⟨p, vs, j, w, rfl, rfl, by rw [hK]; exact hp, ew, a.val R rfl rw'⟩ hs
        | _ => rw [el] at ez; cases ez
  | _ => cases ez
end
/-! ### slices -/
def cutL {α : Type} (xs : List α) (lo hi : Option Int) : List α := (xs.drop (HT.sIx xs.length 0 lo)).take (HT.sIx xs.length xs.length hi - HT.sIx xs.length 0 lo)
def slS (h : Hh) (x : D) (lo hi : Option Int) : Option (D × Hh) := match x with
  | .str l => if l.length ≤ sizeLine then some (.str (cutL l lo hi), h) else none
  | .tup xs => some (.tup (cutL xs lo hi), h)
  | .ref _ => (match asL h x with
    | some xs => some (.ref h.length, h ++ [.lst (cutL xs lo hi)])
    | none => none)
  | _ => none
def rSl (T : Tab) : V → Option Int → Option Int → Hp → VK → Prop := fun x lo hi H Q => ∃ ρ h d, Rp T ρ h H ∧ RelD T ρ H d x ∧ Ans T ρ H (slS h d lo hi) Q
section
variable {T : Tab} {ρ : List Addr} {H : Hp} {h : Hh}
theorem RelDs.cut {ds : List D} {vs : List V} (r : RelDs T ρ H ds vs) (lo hi : Option Int) : RelDs T ρ H (cutL ds lo hi) (cutV vs lo hi) := by
  unfold cutL cutV
  rw [r.length]
  exact (r.drop _).take _
theorem cut_whole {α : Type} {xs : List α} {lo hi : Option Int} (h : HT.sIx xs.length 0 lo = 0 ∧ HT.sIx xs.length xs.length hi = xs.length) : cutL xs lo hi = xs := by
  unfold cutL
  rw [h.1, h.2]
  simp
variable {X : Cx}
theorem sl_slS (hK : X.K = T.K) : SlR X (rSl T) := by
  intro pins s σ H x v vl vu lo hi sl Q I rx hs pl pu hr
  obtain ⟨ρ, h, d, R, rd, a⟩ := hr
  obtain ⟨z, h1, ez⟩ := a.ex
  unfold slS at ez a
  cases d with
  | str l =>
    dsimp only at ez a
    by_cases hl : l.length ≤ sizeLine
    · rw [if_pos hl] at ez a
      obtain ⟨z', rfl, e1⟩ := relSt rd
      refine sl_str pins s σ H _ v vl vu lo hi sl Q I rx hs pl pu ⟨z', rfl, by rw [str_len e1]; exact hl, a.val R rfl (.str ?_)⟩
      unfold cutS cutL
      rw [str_len e1, e1]
    · rw [if_neg hl] at ez; cases ez
  | tup xs =>
    obtain ⟨p, vs, rfl, hp, rs⟩ := relT rd
    dsimp only at a
    refine sl_tupA pins s σ H _ v vl vu lo hi sl Q I rx hs pl pu ⟨p, vs, rfl, .of hp, fun w => ?_, fun _ => a.tup R rfl (rs.cut lo hi)⟩
    rw [← rs.length] at w
    rw [cut_whole w] at a
    exact a.val R rfl (.tup hp rs)
  | ref i =>
    dsimp only at ez a
    cases el : asL h (.ref i) with
    | none => rw [el] at ez; cases ez
    | some xs =>
      rw [el] at a
      obtain ⟨p, vs, rfl, hp, rs⟩ := R.asL rd el
      exact sl_list pins s σ H _ v vl vu lo hi sl Q I rx hs pl pu ⟨p, vs, rfl, by rw [hK]; exact hp, a.lst R rfl (rs.cut lo hi)⟩
  | _ => cases ez
end
end Mi

set_option Elab.async false
set_option linter.all false
set_option maxRecDepth 100000
set_option maxHeartbeats 1000000
/-! Mi: truth, lengths, isinstance, built-ins, methods. -/
namespace Mi
open PySem PySem.Spec PyProof.Rows L2

/-! ### truth -/
def truD (h : Hh) : D → Option Bool
  | .non => some false
  | .bl b => some b
  | .int i => some (i != 0)
  | .str l => if l.length ≤ sizeLine then some (!l.isEmpty) else none
  | .tup xs => some (!xs.isEmpty)
  | .ref i => match asK h (.ref i) with
    | some kvs => some (!kvs.isEmpty)
    | none => (asL h (.ref i)).map fun xs => !xs.isEmpty
  | .exn _ _ => none
/-- a test of a value -/
def rTru (T : Tab) : V → Hp → (Bool → Hp → Prop) → Prop := fun x H Q => ∃ ρ h d b, Rp T ρ h H ∧ RelD T ρ H d x ∧ truD h d = some b ∧ Q b H
section
variable {X : Cx} {T : Tab} {ρ : List Addr} {H : Hp} {h : Hh}
theorem RelDs.isEmpty {ds : List D} {vs : List V} (r : RelDs T ρ H ds vs) : ds.isEmpty = vs.isEmpty := by
  cases r <;> rfl
theorem KVs.isEmpty {l : List (Ky × D)} {m : List (Key × V)} (r : KVs T ρ H l m) : l.isEmpty = m.isEmpty := by
  cases r <;> rfl
theorem tru_run (hK : X.K = T.K) {pins : List (Addr × Obj)} {σ : L2.St} {s : Shared} (I : Inv X pins σ H s) (R : Rp T ρ h H) {d : D} {v : V} {u : Value} {b : Bool} (rd : RelD T ρ H d v) (ru : RelV v u) (e : truD h d = some b) {Q : Bool → Shared → Prop} (q : ∀ s', Inv X pins σ H s' → Q b s') :
    wpAny (model X.prog X.w) X.A (truthy u) Q X.xe s := by
  have fin : ∀ (k : Bool) (s' : Shared), TP X pins σ (fun c H' => H' = H ∧ c = b) k s' → Q k s' := fun k s' ⟨H', I', e1, e2⟩ => by
    subst e1; subst e2; exact q s' I'
  cases d with
  | non => cases relN rd; cases e; exact thn (tru_ok pins s σ H _ u _ I ru ⟨false, rfl, rfl, rfl⟩) fin
  | bl c => cases relB rd; cases e; exact thn (tru_ok pins s σ H _ u _ I ru ⟨_, rfl, rfl, rfl⟩) fin
  | int i => cases relI rd; cases e; exact thn (tru_ok pins s σ H _ u _ I ru ⟨_, rfl, rfl, rfl⟩) fin
  | str l =>
    obtain ⟨z, rfl, e1⟩ := relSt rd
    unfold truD at e
    dsimp only at e
    by_cases hl : l.length ≤ sizeLine
    · rw [if_pos hl] at e; cases e
      refine thn (tru_ok pins s σ H _ u _ I ru ⟨!l.isEmpty, ⟨by rw [str_len e1]; exact hl, ?_⟩, rfl, rfl⟩) fin
      rw [str_len e1]
      cases l with
      | nil => rfl
      | cons c l => rw [List.length_cons]; symm; simp; omega
    · rw [if_neg hl] at e; cases e
  | tup xs =>
    obtain ⟨p, vs, rfl, hp, rs⟩ := relT rd
    cases e
    exact thn (tru_ok pins s σ H _ u _ I ru ⟨!xs.isEmpty, .inr (.inl ⟨vs, .of hp, by rw [rs.isEmpty]⟩), rfl, rfl⟩) fin
  | ref i =>
    unfold truD at e
    dsimp only at e
    cases ek : asK h (.ref i) with
    | some kvs =>
      rw [ek] at e; cases e
      obtain ⟨p, m, rfl, hd, rk⟩ := R.asK rd ek
      obtain rfl : u = Value.ref p := ru
      refine d_truth I hd fun s' I' => ?_
      rw [← rk.isEmpty]
      exact q s' I'
    | none =>
      rw [ek] at e
      cases el : asL h (.ref i) with
      | none => rw [el] at e; cases e
      | some xs =>
        rw [el] at e; cases e
        obtain ⟨p, vs, rfl, hp, rs⟩ := R.asL rd el
        exact thn (tru_ok pins s σ H _ u _ I ru ⟨!xs.isEmpty, .inl ⟨vs, by rw [hK]; exact hp, by rw [rs.isEmpty]⟩, rfl, rfl⟩) fin
  | exn c fs => cases e
end

/-! ### built-ins called with values -/
inductive Bi where
  | len | abs | int | min2 | max2 | sum | any | all | list | tuple | bool | str
  deriving DecidableEq
def lenS : SN := fun h xs => match xs with
  | [.str l] => if l.length ≤ sizeLine then some (.int l.length, h) else none
  | [.tup xs] => some (.int xs.length, h)
  | [.ref i] => match asK h (.ref i) with
    | some kvs => some (.int kvs.length, h)
    | none => (asL h (.ref i)).map fun xs => (.int xs.length, h)
  | _ => none
def absS : SN := fun h xs => match xs with
  | [.int i] => some (.int (if i < 0 then -i else i), h)
  | _ => none
def intS : SN := fun h xs => match xs with
  | [.int i] => some (.int i, h)
  | [.bl b] => some (.int (if b then 1 else 0), h)
  | _ => none
def min2S : SN := fun h xs => match xs with
  | [.int i, .int j] => some (.int (if j < i then j else i), h)
  | _ => none
def max2S : SN := fun h xs => match xs with
  | [.int i, .int j] => some (.int (if j > i then j else i), h)
  | _ => none
def intsD : List D → Option (List Int)
  | [] => some []
  | .int i :: r => (intsD r).map (i :: ·)
  | _ :: _ => none
def blsD : List D → Option (List Bool)
  | [] => some []
  | .bl i :: r => (blsD r).map (i :: ·)
  | _ :: _ => none
def sumS : SN := fun h xs => match xs with
  | [x] => (asL h x).bind fun ds => (intsD ds).map fun ns => (.int ns.sum, h)
  | _ => none
def anyS : SN := fun h xs => match xs with
  | [x] => (asL h x).bind fun ds => (blsD ds).map fun ns => (.bl (ns.any id), h)
  | _ => none
def allS : SN := fun h xs => match xs with
  | [x] => (asL h x).bind fun ds => (blsD ds).map fun ns => (.bl (ns.all id), h)
  | _ => none
def listS : SN := fun h xs => match xs with
  | [.tup ds] => some (.ref h.length, h ++ [.lst ds])
  | [.ref i] => match asK h (.ref i) with
    | some _ => none
    | none => (asL h (.ref i)).map fun ds => (.ref h.length, h ++ [.lst ds])
  | _ => none
def tupleS : SN := fun h xs => match xs with
  | [.tup ds] => some (.tup ds, h)
  | [.ref i] => (asL h (.ref i)).map fun ds => (.tup ds, h)
  | _ => none
section
variable {X : Cx} {T : Tab} {ρ : List Addr} {H : Hp} {h : Hh}
theorem RelDs.one {d : D} {xs : List V} (r : RelDs T ρ H [d] xs) : ∃ x, xs = [x] ∧ RelD T ρ H d x := by
  cases r with
  | cons h t => cases t; exact ⟨_, rfl, h⟩
theorem RelDs.two {d e : D} {xs : List V} (r : RelDs T ρ H [d, e] xs) : ∃ x y, xs = [x, y] ∧ RelD T ρ H d x ∧ RelD T ρ H e y := by
  cases r with
  | cons h t => cases t with
    | cons h' t => cases t; exact ⟨_, _, rfl, h, h'⟩
theorem RelDs.ints : ∀ {ds : List D} {xs : List V} {ns : List Int}, RelDs T ρ H ds xs → intsD ds = some ns → xs = ns.map V.int
  | _, _, ns, .nil, e => by cases e; rfl
  | d :: ds, x :: xs, ns, .cons h t, e => by
    cases d with
    | int i =>
      unfold intsD at e
      cases e1 : intsD ds with
      | none => rw [e1] at e; cases e
      | some ms => rw [e1] at e; cases e; cases relI h; rw [RelDs.ints t e1]; rfl
    | _ => cases e
theorem RelDs.bls : ∀ {ds : List D} {xs : List V} {ns : List Bool}, RelDs T ρ H ds xs → blsD ds = some ns → xs = ns.map V.bl
  | _, _, ns, .nil, e => by cases e; rfl
  | d :: ds, x :: xs, ns, .cons h t, e => by
    cases d with
    | bl i =>
      unfold blsD at e
      cases e1 : blsD ds with
      | none => rw [e1] at e; cases e
      | some ms => rw [e1] at e; cases e; cases relB h; rw [RelDs.bls t e1]; rfl
    | _ => cases e
theorem Ans.bind {α : Type} {o : Option α} {f : α → Option (D × Hh)} {Q : VK} (a : Ans T ρ H (o.bind f) Q) : ∃ x, o = some x ∧ Ans T ρ H (f x) Q := by
  cases o with
  | none => obtain ⟨_, _, e, _⟩ := a; cases e
  | some x => exact ⟨x, rfl, a⟩
theorem Ans.map {α : Type} {o : Option α} {f : α → D × Hh} {Q : VK} (a : Ans T ρ H (o.map f) Q) : ∃ x, o = some x ∧ Ans T ρ H (some (f x)) Q := by
  cases o with
  | none => obtain ⟨_, _, e, _⟩ := a; cases e
  | some x => exact ⟨x, rfl, a⟩
theorem Ans.no {Q : VK} (a : Ans T ρ H none Q) : False := by
  obtain ⟨_, _, e, _⟩ := a; cases e
theorem Ans.ite {c : Prop} [Decidable c] {r : Option (D × Hh)} {Q : VK} (a : Ans T ρ H (if c then r else none) Q) : c ∧ Ans T ρ H r Q := by
  by_cases hc : c
  · rw [if_pos hc] at a; exact ⟨hc, a⟩
  · rw [if_neg hc] at a; exact a.no.elim
theorem cr_lenS (hK : X.K = T.K) : CallR X (.builtin "len") (rN T lenS) := by
  intro pins s σ H xs us Q I r hr
  obtain ⟨ρ, h, ds, R, rd, a⟩ := hr
  unfold lenS at a
  split at a
  · obtain ⟨hl, a⟩ := a.ite
    obtain ⟨x, rfl, rx⟩ := rd.one
    obtain ⟨z, rfl, e1⟩ := relSt rx
    refine call_len pins s σ H _ us Q I r ⟨_, _, rfl, ⟨by rw [str_len e1]; exact hl, rfl⟩, ?_⟩
    rw [str_len e1]
    exact a.val R rfl (.int _)
  · obtain ⟨x, rfl, rx⟩ := rd.one
    obtain ⟨p, vs, rfl, hp, rs⟩ := relT rx
    refine call_len pins s σ H _ us Q I r ⟨_, _, rfl, .inr ⟨vs, .of hp, rfl⟩, ?_⟩
    rw [← rs.length]
    exact a.val R rfl (.int _)
  · obtain ⟨x, rfl, rx⟩ := rd.one
    split at a
    · next kvs ek =>
      obtain ⟨p, m, rfl, hd, rk⟩ := R.asK rx ek
      obtain ⟨u, rfl, ru⟩ := vals1 r
      obtain rfl : u = Value.ref p := ru
      refine d_len I hd fun t s' I' => ⟨.int m.length, H, I', ⟨t, rfl⟩, ?_⟩
      rw [← rk.length]
      exact a.val R rfl (.int _)
    · obtain ⟨ys, el, a⟩ := a.map
      obtain ⟨p, vs, rfl, hp, rs⟩ := R.asL rx el
      refine call_len pins s σ H _ us Q I r ⟨_, _, rfl, .inl ⟨vs, by rw [hK]; exact hp, rfl⟩, ?_⟩
      rw [← rs.length]
      exact a.val R rfl (.int _)
  · exact a.no.elim
theorem cr_absS : CallR X (.builtin "abs") (rN T absS) := by
  intro pins s σ H xs us Q I r hr
  obtain ⟨ρ, h, ds, R, rd, a⟩ := hr
  unfold absS at a
  split at a
  · obtain ⟨x, rfl, rx⟩ := rd.one
    cases relI rx
    exact call_abs pins s σ H _ us Q I r ⟨_, rfl, a.val R rfl (.int _)⟩
  · exact a.no.elim
theorem cr_intS : CallR X (.type "int") (rN T intS) := by
  intro pins s σ H xs us Q I r hr
  obtain ⟨ρ, h, ds, R, rd, a⟩ := hr
  unfold intS at a
  split at a
  · obtain ⟨x, rfl, rx⟩ := rd.one
    cases relI rx
    exact call_int1 pins s σ H _ us Q I r (.inl ⟨_, rfl, a.val R rfl (.int _)⟩)
  · obtain ⟨x, rfl, rx⟩ := rd.one
    cases relB rx
    exact call_int1 pins s σ H _ us Q I r (.inr ⟨_, rfl, a.val R rfl (.int _)⟩)
  · exact a.no.elim
theorem cr_min2S (hc : X.calm = true) : CallR X (.builtin "min") (rN T min2S) := by
  intro pins s σ H xs us Q I r hr
  obtain ⟨ρ, h, ds, R, rd, a⟩ := hr
  unfold min2S at a
  split at a
  · obtain ⟨x, y, rfl, rx, ry⟩ := rd.two
    cases relI rx; cases relI ry
    exact call_min2 hc pins s σ H _ us Q I r ⟨_, _, rfl, a.val R rfl (.int _)⟩
  · exact a.no.elim
theorem cr_max2S (hc : X.calm = true) : CallR X (.builtin "max") (rN T max2S) := by
  intro pins s σ H xs us Q I r hr
  obtain ⟨ρ, h, ds, R, rd, a⟩ := hr
  unfold max2S at a
  split at a
  · obtain ⟨x, y, rfl, rx, ry⟩ := rd.two
    cases relI rx; cases relI ry
    exact call_max2 hc pins s σ H _ us Q I r ⟨_, _, rfl, a.val R rfl (.int _)⟩
  · exact a.no.elim
theorem cr_sumS (hc : X.calm = true) (hK : X.K = T.K) : CallR X (.builtin "sum") (rN T sumS) := by
  intro pins s σ H xs us Q I r hr
  obtain ⟨ρ, h, ds, R, rd, a⟩ := hr
  unfold sumS at a
  split at a
  · obtain ⟨x, rfl, rx⟩ := rd.one
    obtain ⟨ys, el, a⟩ := a.bind
    obtain ⟨ns, en, a⟩ := a.map
    obtain ⟨p, vs, rfl, hp, rs⟩ := R.asL rx el
    have := rs.ints en
    subst this
    exact cr_sum hc pins s σ H _ us Q I r ⟨p, ns, rfl, by rw [hK]; exact hp, a.val R rfl (.int _)⟩
  · exact a.no.elim
theorem cr_anyS (hc : X.calm = true) (hK : X.K = T.K) : CallR X (.builtin "any") (rN T anyS) := by
  intro pins s σ H xs us Q I r hr
  obtain ⟨ρ, h, ds, R, rd, a⟩ := hr
  unfold anyS at a
  split at a
  · obtain ⟨x, rfl, rx⟩ := rd.one
    obtain ⟨ys, el, a⟩ := a.bind
    obtain ⟨ns, en, a⟩ := a.map
    obtain ⟨p, vs, rfl, hp, rs⟩ := R.asL rx el
    have := rs.bls en
    subst this
    exact cr_any hc pins s σ H _ us Q I r ⟨p, ns, rfl, by rw [hK]; exact hp, a.val R rfl (.bl _)⟩
  · exact a.no.elim
theorem cr_allS (hc : X.calm = true) (hK : X.K = T.K) : CallR X (.builtin "all") (rN T allS) := by
  intro pins s σ H xs us Q I r hr
  obtain ⟨ρ, h, ds, R, rd, a⟩ := hr
  unfold allS at a
  split at a
  · obtain ⟨x, rfl, rx⟩ := rd.one
    obtain ⟨ys, el, a⟩ := a.bind
    obtain ⟨ns, en, a⟩ := a.map
    obtain ⟨p, vs, rfl, hp, rs⟩ := R.asL rx el
    have := rs.bls en
    subst this
    exact cr_all hc pins s σ H _ us Q I r ⟨p, ns, rfl, by rw [hK]; exact hp, a.val R rfl (.bl _)⟩
  · exact a.no.elim
theorem cr_listS (hK : X.K = T.K) : CallR X (.type "list") (rN T listS) := by
  intro pins s σ H xs us Q I r hr
  obtain ⟨ρ, h, ds, R, rd, a⟩ := hr
  unfold listS at a
  split at a
  · obtain ⟨x, rfl, rx⟩ := rd.one
    obtain ⟨p, vs, rfl, hp, rs⟩ := relT rx
    exact call_list_of pins s σ H _ us Q I r ⟨p, vs, rfl, .inr (.of hp), a.lst R rfl rs⟩
  · obtain ⟨x, rfl, rx⟩ := rd.one
    split at a
    · exact a.no.elim
    · obtain ⟨ys, el, a⟩ := a.map
      obtain ⟨p, vs, rfl, hp, rs⟩ := R.asL rx el
      exact call_list_of pins s σ H _ us Q I r ⟨p, vs, rfl, .inl (by rw [hK]; exact hp), a.lst R rfl rs⟩
  · exact a.no.elim
theorem cr_tupleS (hK : X.K = T.K) : CallR X (.type "tuple") (rN T tupleS) := by
  intro pins s σ H xs us Q I r hr
  obtain ⟨ρ, h, ds, R, rd, a⟩ := hr
  unfold tupleS at a
  split at a
  · obtain ⟨x, rfl, rx⟩ := rd.one
    obtain ⟨p, vs, rfl, hp, rs⟩ := relT rx
    exact call_tuple_of pins s σ H _ us Q I r ⟨p, vs, rfl, .inr ⟨.of hp, a.val R rfl (.tup hp rs)⟩⟩
  · obtain ⟨x, rfl, rx⟩ := rd.one
    obtain ⟨ys, el, a⟩ := a.map
    obtain ⟨p, vs, rfl, hp, rs⟩ := R.asL rx el
    exact call_tuple_of pins s σ H _ us Q I r ⟨p, vs, rfl, .inl ⟨by rw [hK]; exact hp, a.tup R rfl rs⟩⟩
  · exact a.no.elim
end
/-! ### isinstance of a built-in class -/
def isiS (t : Ty) : Hh → D → Option (D × Hh) := fun h x => if t = .non then none else (tyD h x).map fun a => (.bl (isTy a t), h)
section
variable {X : Cx} {T : Tab} {ρ : List Addr} {H : Hp} {h : Hh}
theorem tyD_of (R : Rp T ρ h H) {d : D} {v : V} {a : Ty} (rd : RelD T ρ H d v) (e : tyD h d = some a) : TyOf X.K H v (.type a.name) := by
  cases rd with
  | non => cases e; exact .non
  | bl b => cases e; exact .bl b
  | int i => cases e; exact .int i
  | str _ => cases e; exact .str _
  | tup hp _ => cases e; exact .tup hp
  | @ref i p hp =>
    obtain ⟨o, ho, k⟩ := R.obj hp
    unfold tyD at e
    dsimp only at e
    rw [ho] at e
    cases k with
    | lst h _ => cases e; exact .lst h
    | fro h _ => cases e; exact .frz h
    | dct h _ => cases e; exact .dK h
    | dcl h _ => cases e
  | exn _ => cases e
  | exf _ _ _ _ => cases e
def isiN (t : Ty) : SN := fun h xs => match xs with
  | [x] => isiS t h x
  | _ => none
/-- isinstance(x, T): the class is the second argument -/
theorem isi_run {pins : List (Addr × Obj)} {σ : L2.St} {s : Shared} (I : Inv X pins σ H s) (R : Rp T ρ h H) {t : Ty} {d : D} {v : V} {u : Value} (rd : RelD T ρ H d v) (ru : RelV v u) {Q : VK} (a : Ans T ρ H (isiS t h d) Q) :
    wpAny (model X.prog X.w) X.A (call (.builtin "isinstance") [u, .type t.name]) (EP X pins σ Q) X.xe s := by
  unfold isiS at a
  by_cases ht : t = .non
  · rw [if_pos ht] at a; exact a.no.elim
  · rw [if_neg ht] at a
    obtain ⟨ty, ety, a⟩ := a.map
    exact isinst_ok I ru (tyD_of R rd ety) (kit_ty (isTy_kit ty t ht)) fun tk => ⟨.bl (isTy ty t), H, I.tok tk, rfl, a.val R rfl (.bl _)⟩
end
end Mi

set_option Elab.async false
set_option linter.all false
set_option maxRecDepth 100000
set_option maxHeartbeats 1000000
/-! Mi: methods of lists and dicts. -/
namespace Mi
open PySem PySem.Spec PyProof.Rows L2

inductive Mt where
  | append | extend | pop | count | index | get | setdefault
  deriving DecidableEq
def Mt.name : Mt → String
  | .append => "append" | .extend => "extend" | .pop => "pop" | .count => "count" | .index => "index" | .get => "get" | .setdefault => "setdefault"
/-- a receiver's kind -/
def recT (h : Hh) : D → Option Ty
  | .str _ => some .str
  | .ref i => match h[i]? with
    | some (.lst _) => some .lst
    | some (.fro _) => some .lst
    | some (.dct _ _) => some .dct
    | none => none
  | _ => none
def mtS : Mt → Ty → SN
  | .append, .lst => fun h xs => match xs with
    | [.ref i, d] => (match h[i]? with
      | some (.lst ys) => if ys.length < sizeLine then some (.non, h.set i (.lst (ys ++ [d]))) else none
      | _ => none)
    | _ => none
  | .extend, .lst => fun h xs => match xs with
    | [.ref i, .tup zs] => (match h[i]? with
      | some (.lst ys) => if ys.length + zs.length ≤ sizeLine then some (.non, h.set i (.lst (ys ++ zs))) else none
      | _ => none)
    | [.ref i, .ref j] => (match h[i]?, h[j]? with
      | some (.lst ys), some (.lst zs) => if ys.length + zs.length ≤ sizeLine then some (.non, h.set i (.lst (ys ++ zs))) else none
      | _, _ => none)
    | _ => none
  | .pop, .lst => fun h xs => match xs with
    | [.ref i] => (match h[i]? with
      | some (.lst ys) => (ys[ys.length - 1]?).map fun d => (d, h.set i (.lst ys.dropLast))
      | _ => none)
    | _ => none
  | .count, .lst => fun h xs => match xs with
    | [x, y] => (asL h x).bind fun ys => (eqsWith h y ys).map fun bs => (.int (bs.countP id : Nat), h)
    | _ => none
  | .index, .lst => fun h xs => match xs with
    | [x, y] => (asL h x).bind fun ys => (eqsWith h y ys).bind fun bs => if bs.length ≤ sizeLine then (bs.findIdx? id).map fun j => (.int (j : Nat), h) else none
    | _ => none
  | .get, .dct => fun h xs => match xs with
    | [x, k] => (asK h x).bind fun kvs => k.ky.map fun k => ((getKd kvs k).getD .non, h)
    | [x, k, d] => (asK h x).bind fun kvs => k.ky.map fun k => ((getKd kvs k).getD d, h)
    | _ => none
  | .setdefault, .dct => fun h xs => match xs with
    | [.ref i, k, d] => (match h[i]? with
      | some (.dct false kvs) => k.ky.bind fun k => if kvs.length < sizeLine then some (match getKd kvs k with
        | some e => (e, h)
        | none => (d, h.set i (.dct false (putKd kvs k d)))) else none
      | _ => none)
    | _ => none
  | _, _ => fun _ _ => none
section
variable {T : Tab} {ρ : List Addr} {H : Hp} {h : Hh} {Q : VK}
theorem Aft.set (R : Rp T ρ h H) {i : Nat} {a : Addr} (ha : ρ[i]? = some a) {u v : HO} (hv : H a = some v) (hc : Wri v) {o : O} (k : OkO T ρ (upd H a u) a o) : Aft T ρ H ρ (h.set i o) (upd H a u) :=
  ⟨List.prefix_refl _, Ext.chg hv hc, R.store ha hv hc k⟩
theorem Aft.setL (R : Rp T ρ h H) {i : Nat} {a : Addr} (ha : ρ[i]? = some a) {vs ws : List V} {ys : List D} (hv : H a = some (.lst vs)) (r : RelDs T ρ H ys ws) : Aft T ρ H ρ (h.set i (.lst ys)) (upd H a (.lst ws)) :=
  Aft.set R ha hv trivial (.lst upd_same (r.mono (List.prefix_refl _) (Ext.chg hv trivial)))
theorem Aft.setK (R : Rp T ρ h H) {i : Nat} {a : Addr} (ha : ρ[i]? = some a) {m m' : List (Key × V)} {ys : List (Ky × D)} (hv : H a = some (.dK m)) (r : KVs T ρ H ys m') : Aft T ρ H ρ (h.set i (.dct false ys)) (upd H a (.dK m')) :=
  Aft.set R ha hv trivial (.dct upd_same (r.mono (List.prefix_refl _) (Ext.chg hv trivial)))
theorem getLast_rel {ds : List D} {vs : List V} {d : D} (r : RelDs T ρ H ds vs) (e : ds[ds.length - 1]? = some d) : ∃ v, vs[vs.length - 1]? = some v ∧ RelD T ρ H d v := by
  rw [← r.length]; exact r.get e
end
open PySem.AutoSeq1 in
theorem extend_tup (l b : Addr) (its its2 : Array Value) (n n2 : Nat) (dd : Option Addr) (sl : Array (Option Value)) (h0 : ¬ (!its.isEmpty && Builtin.List.listTooLong (its.size + its2.size)) = true) (h1 : its.size ≤ sizeLine) (h2 : its.size + its2.size ≤ sizeLine) :
    Meets (Builtin.«list.extend» ⟨[.ref l, .ref b], []⟩) (fun _ R s => s.heap.get? l = some { cls := .type "list", data := .seq its n } ∧ s.heap.get? b = some { cls := .type "tuple", dict := dd, data := .seq its2 n2, slots := sl } ∧
      R (.ok (.ret Value.none)) { s with heap := s.heap.update l (Obj.mapSeq fun x => x ++ its2), toks := s.toks }) := .of_wp fun prog w A R s h => by
  obtain ⟨hp, g, d, tk, os⟩ := s
  obtain ⟨hl, hb, h⟩ := h
  have f1 := AutoSeq1.idx_int
  have f2 := AutoSeq1.sub_tuple_tuple
  have f3 := AutoSeq1.sub_list_list
  have f4 := AutoSeq1.sub_tuple_list
  have f5 := AutoSeq1.sub_list_tuple
  have hz : (its ++ its2).size ≤ sizeLine + 1 := by rw [Array.size_append]; omega
  wp_walk using (wpAny_updateSeq hl rfl (hz := h1) (_hz' := hz)), wpAny_loadPart' hl, wpAny_loadPart' hb
  exact ⟨_, rfl, h⟩
section
variable {X : Cx} {T : Tab}
open PySem.SeqAt in
theorem mt_ok (hK : X.K = T.K) (hu : X.A.units + 200 < cLine) (m : Mt) (ty : Ty) : (∀ h xs, mtS m ty h xs = none) ∨ ∃ id, PlainAttrs ty.name ∧ Slot ty.name (Str.ofString m.name) id ∧ typeOf (.builtin id) = pure (.type "method_descriptor") ∧
    ∀ (pins : List (Addr × Obj)) (s : Shared) (σ : L2.St) (H : Hp) (ρ : List Addr) (h : Hh) (d : D) (ds : List D) (x : V) (xs : List V) (v : Value) (us : List Value) (Q : VK), Inv X pins σ H s → Rp T ρ h H → RelD T ρ H d x → RelDs T ρ H ds xs → RelV x v → Vals xs us → Ans T ρ H (mtS m ty h (d :: ds)) Q →
      wpAny (model X.prog X.w) X.A (call (.builtin id) (v :: us)) (EP X pins σ Q) X.xe s := by
  have hin : X.A.in1.units + 190 < cLine := by show X.A.units + 1 + 190 < cLine; omega
  cases m <;> cases ty <;> first | exact .inl fun _ _ => rfl | skip
  · -- append
    refine .inr ⟨_, PySem.F.plainAttrs_list, PySem.F.slot_list_append, PySem.F.type_list_append, fun pins s σ H ρ h d ds x xs v us Q I R rd rds rx rv a => ?_⟩
    unfold mtS at a
    dsimp only at a
    split at a
    · next i e heq =>
      cases heq
      split at a
      · next ys ei =>
        obtain ⟨hl, a⟩ := a.ite
        obtain ⟨y, rfl, ry⟩ := rds.one
        obtain ⟨p, vs, rfl, hp, hv, rs⟩ := R.lst rd ei
        obtain ⟨z, h', ez, q⟩ := a
        cases ez
        exact mt_append pins s σ H _ _ v us Q I rx rv ⟨p, vs, y, rfl, rfl, hv, by rw [← rs.length]; exact hl, q _ _ _ (Aft.setL R hp hv (rs.append (.cons ry .nil))) .non⟩
      · exact a.no.elim
    · exact a.no.elim
  · -- extend
    refine .inr ⟨_, PySem.F.plainAttrs_list, PySem.F.slot_list_extend, PySem.F.type_list_extend, fun pins s σ H ρ h d ds x xs v us Q I R rd rds rx rv a => ?_⟩
    unfold mtS at a
    dsimp only at a
    split at a
    · next i zs heq =>
      cases heq
      split at a
      · next ys ei =>
        obtain ⟨hl, a⟩ := a.ite
        obtain ⟨y, rfl, ry⟩ := rds.one
        obtain ⟨p, vs, rfl, hp, hv, rs⟩ := R.lst rd ei
        obtain ⟨p2, ws, rfl, hv2, rs2⟩ := relT ry
        obtain ⟨z, h', ez, q⟩ := a
        cases ez
        cases rx
        obtain ⟨u, rfl, ru⟩ := rv.one
        cases ru
        obtain ⟨z1, its, n, r, hl1, e⟩ := I.lstM hv
        obtain ⟨its2, r2, it2, z2⟩ := I.tuple (.of hv2)
        obtain ⟨⟨cls, dd, data, sl⟩, ho2, hc2, n2, hd2⟩ := id it2
        simp only at hc2 hd2
        subst hc2 hd2
        have e1 := rs.length
        have e2 := rs2.length
        have e4 := r2.length
        have hsz : its.toArray.size + its2.toArray.size ≤ sizeLine := by rw [List.size_toArray, List.size_toArray]; omega
        have hlong : ¬ (!its.toArray.isEmpty && Builtin.List.listTooLong (its.toArray.size + its2.toArray.size)) = true := by
          rw [notLongL hsz, Bool.and_false]
          exact Bool.false_ne_true
        refine call_meets PySem.F.slot_list_extend ⟨_, e, rfl⟩ PySem.F.entry_list_extend (PySem.F.args_list_extend_2 _ _) (extend_tup p p2 its.toArray its2.toArray n n2 dd sl hlong (by rw [List.size_toArray]; omega) hsz) ⟨e, ho2, ?_⟩
        have af := Aft.setL R hp hv (rs.append rs2)
        refine ⟨.non, _, I.lset (its' := its ++ its2) hv e (by simp) (r.append r2) ?_, rfl, q _ _ _ af .non⟩
        rw [List.length_append]
        omega
      · exact a.no.elim
    · next i j heq =>
      cases heq
      split at a
      · next ys zs ei ej =>
        obtain ⟨hl, a⟩ := a.ite
        obtain ⟨y, rfl, ry⟩ := rds.one
        obtain ⟨p, vs, rfl, hp, hv, rs⟩ := R.lst rd ei
        obtain ⟨p2, ws, rfl, hp2, hv2, rs2⟩ := R.lst ry ej
        obtain ⟨z, h', ez, q⟩ := a
        cases ez
        exact mt_extend pins s σ H _ _ v us Q I rx rv ⟨p, p2, vs, ws, rfl, rfl, hv, hv2, by rw [← rs.length, ← rs2.length]; exact hl, q _ _ _ (Aft.setL R hp hv (rs.append rs2)) .non⟩
      · exact a.no.elim
    · exact a.no.elim
  · -- pop
    refine .inr ⟨_, PySem.F.plainAttrs_list, PySem.F.slot_list_pop, PySem.F.type_list_pop, fun pins s σ H ρ h d ds x xs v us Q I R rd rds rx rv a => ?_⟩
    unfold mtS at a
    dsimp only at a
    split at a
    · next i heq =>
      cases heq
      split at a
      · next ys ei =>
        obtain ⟨e, ey, a⟩ := a.map
        cases rds
        obtain ⟨p, vs, rfl, hp, hv, rs⟩ := R.lst rd ei
        obtain ⟨y, hy, ry⟩ := getLast_rel rs ey
        obtain ⟨z, h', ez, q⟩ := a
        cases ez
        have af := Aft.setL R hp hv rs.dropLast
        exact mt_pop pins s σ H _ _ v us Q I rx rv ⟨p, vs, y, rfl, rfl, hv, hy, q _ _ _ af (af.d ry)⟩
      · exact a.no.elim
    · exact a.no.elim
  · -- count
    refine .inr ⟨_, PySem.F.plainAttrs_list, PySem.F.slot_list_count, PySem.F.type_list_count, fun pins s σ H ρ h d ds x xs v us Q I R rd rds rx rv a => ?_⟩
    unfold mtS at a
    dsimp only at a
    split at a
    · next d' y heq =>
      cases heq
      obtain ⟨ys, el, a1⟩ := a.bind
      obtain ⟨bs, eb, a2⟩ := a1.map
      obtain ⟨w, rfl, rw'⟩ := rds.one
      cases d with
      | ref i =>
        obtain ⟨p, vs, its, rfl, rvs, il, rs⟩ := R.isList hK I rd el
        cases rx
        obtain ⟨u, rfl, ru⟩ := rv.one
        obtain ⟨f, hf, hm, _⟩ := eqsWith_at (A := X.A.in1) hK I R hin rw' ru eb rs rvs
        obtain ⟨⟨cls, dd, data, sl⟩, ho, hc, n, hd⟩ := id il
        simp only at hc hd
        subst hc hd
        refine call_meets PySem.F.slot_list_count ⟨_, ho, rfl⟩ PySem.F.entry_list_count (PySem.F.args_list_count_2 _ _) (list_countAt p its.toArray n dd sl u f) ⟨ho, fun y hy => hf y (by simpa using hy), ?_⟩
        refine ⟨.int (bs.countP id : Nat), H, I.tok _, ⟨s.toks, ?_⟩, a2.val R rfl (.int _)⟩
        rw [← hm, List.countP_map]
        rfl
      | _ => cases el
    · exact a.no.elim
  · -- index
    refine .inr ⟨_, PySem.F.plainAttrs_list, PySem.F.slot_list_index, PySem.F.type_list_index, fun pins s σ H ρ h d ds x xs v us Q I R rd rds rx rv a => ?_⟩
    unfold mtS at a
    dsimp only at a
    split at a
    · next d' y heq =>
      cases heq
      obtain ⟨ys, el, a1⟩ := a.bind
      obtain ⟨bs, eb, a2⟩ := a1.bind
      obtain ⟨hlen, a3⟩ := a2.ite
      obtain ⟨j, ej, a4⟩ := a3.map
      obtain ⟨w, rfl, rw'⟩ := rds.one
      cases d with
      | ref i =>
        obtain ⟨p, vs, its, rfl, rvs, il, rs⟩ := R.isList hK I rd el
        cases rx
        obtain ⟨u, rfl, ru⟩ := rv.one
        obtain ⟨f, hf, hm, _⟩ := eqsWith_at (A := X.A.in1) hK I R hin rw' ru eb rs rvs
        obtain ⟨⟨cls, dd, data, sl⟩, ho, hc, n, hd⟩ := id il
        simp only at hc hd
        subst hc hd
        have hl : its.length = bs.length := by rw [← hm, List.length_map]
        have hat : ∀ k (hk : k < its.length), f its[k] = bs[k]'(by rw [← hl]; exact hk) := fun k hk => by
          subst hm
          rw [List.getElem_map]
        obtain ⟨hj, hjt, hjn⟩ := List.findIdx?_eq_some_iff_getElem.mp ej
        have h16 : sizeLine = 16777216 := sizeLine_eq
        refine call_meets PySem.F.slot_list_index ⟨_, ho, rfl⟩ PySem.F.entry_list_index (PySem.F.args_list_index_2 _ _)
          (list_indexAt p its.toArray n dd sl u f j (by rw [List.size_toArray, hl]; exact hj) (by omega) (by rw [List.getElem_toArray, hat]; exact hjt) (fun k hk hkj => by
            rw [List.size_toArray] at hk
            rw [List.getElem_toArray, hat]
            simpa using hjn k hkj)) ⟨ho, fun y hy => hf y (by simpa using hy), ?_⟩
        exact ⟨.int (j : Nat), H, I.tok _, ⟨_, rfl⟩, a4.val R rfl (.int _)⟩
      | _ => cases el
    · exact a.no.elim
  · -- get
    refine .inr ⟨_, PySem.F.plainAttrs_dict, PySem.F.slot_dict_get, PySem.F.type_dict_get, fun pins s σ H ρ h d ds x xs v us Q I R rd rds rx rv a => ?_⟩
    unfold mtS at a
    dsimp only at a
    split at a
    · next d' y heq =>
      cases heq
      obtain ⟨kvs, ek, a⟩ := a.bind
      obtain ⟨k, eky, a⟩ := a.map
      obtain ⟨w, rfl, rw'⟩ := rds.one
      obtain ⟨p, m, rfl, hd, rk⟩ := R.asK rd ek
      cases rx
      obtain ⟨u, rfl, ru⟩ := rv.one
      obtain ⟨q', hq, rfl⟩ := KyR.of rw' eky
      refine d_get1 (by omega) I (.inl ⟨m, q', hd, rfl, rfl⟩) ru fun w' s' I' rw2 => ⟨_, H, I', rw2, a.val R rfl ?_⟩
      cases eg : getKd kvs k with
      | none => rw [(rk.get hq).2 eg]; exact .non
      | some e => obtain ⟨v, hv, rv⟩ := (rk.get hq).1 e eg; rw [hv]; exact rv
    · next d' y z heq =>
      cases heq
      obtain ⟨kvs, ek, a⟩ := a.bind
      obtain ⟨k, eky, a⟩ := a.map
      obtain ⟨w, w2, rfl, rw', rz⟩ := rds.two
      obtain ⟨p, m, rfl, hd, rk⟩ := R.asK rd ek
      cases rx
      obtain ⟨u, u2, rfl, ru, ru2⟩ := rv.two
      obtain ⟨q', hq, rfl⟩ := KyR.of rw' eky
      refine d_get2 (by omega) I (.inl ⟨m, q', hd, rfl, rfl⟩) ru ru2 fun w' s' I' rw2 => ⟨_, H, I', rw2, a.val R rfl ?_⟩
      cases eg : getKd kvs k with
      | none => rw [(rk.get hq).2 eg]; exact rz
      | some e => obtain ⟨v, hv, rv⟩ := (rk.get hq).1 e eg; rw [hv]; exact rv
    · exact a.no.elim
  · -- setdefault
    refine .inr ⟨_, PySem.F.plainAttrs_dict, PySem.F.slot_dict_setdefault, PySem.F.type_dict_setdefault, fun pins s σ H ρ h d ds x xs v us Q I R rd rds rx rv a => ?_⟩
    unfold mtS at a
    dsimp only at a
    split at a
    · next i y z heq =>
      cases heq
      split at a
      · next kvs ei =>
        obtain ⟨k, eky, a⟩ := a.bind
        obtain ⟨hl, a⟩ := a.ite
        obtain ⟨w, w2, rfl, rw', rz⟩ := rds.two
        obtain ⟨p, m, rfl, hp, _, rk, hd⟩ := R.dct rd ei
        have hd := hd rfl
        cases rx
        obtain ⟨u, u2, rfl, ru, ru2⟩ := rv.two
        obtain ⟨q', hq, rfl⟩ := KyR.of rw' eky
        refine d_setd I hd ru ru2 (by rw [← rk.length]; exact hl) (fun v hv w' s' I' r' => ?_) (fun hn w' s' I' r' => ?_)
        · cases eg : getKd kvs k with
          | none => rw [(rk.get hq).2 eg] at hv; cases hv
          | some e =>
            rw [eg] at a
            obtain ⟨v', hv', rv'⟩ := (rk.get hq).1 e eg
            rw [hv] at hv'; cases hv'
            exact ⟨v, H, I', r', a.val R rfl rv'⟩
        · cases eg : getKd kvs k with
          | some e => obtain ⟨v', hv', _⟩ := (rk.get hq).1 e eg; rw [hn] at hv'; cases hv'
          | none =>
            rw [eg] at a
            obtain ⟨z, h', ez, q⟩ := a
            cases ez
            have af := Aft.setK R hp hd (rk.put hq rz)
            exact ⟨w2, _, I', r', q _ _ _ af (af.d rz)⟩
      · exact a.no.elim
    · exact a.no.elim
end
end Mi

set_option Elab.async false
set_option linter.all false
set_option maxRecDepth 100000
set_option maxHeartbeats 1000000
/-! Mi: a small language of plain data, and what must hold ahead of a text of it. -/
namespace Mi
open PySem PySem.Spec PyProof.Rows L2

inductive Op2 where
  | add | sub | mul | div | mod | pow | eq | ne | lt | le | gt | ge | iss | isnt | inn | notin | ix
  deriving DecidableEq
def Op2.sem : Op2 → S2
  | .add => addS | .sub => subS | .mul => mulS | .div => divS | .mod => modS | .pow => powS | .eq => eqS | .ne => neS | .lt => ltS | .le => leS | .gt => gtS | .ge => geS
  | .iss => isS | .isnt => isntS | .inn => inS | .notin => notInS | .ix => ixS
def Bi.sem : Bi → SN
  | .len => lenS | .abs => absS | .int => intS | .min2 => min2S | .max2 => max2S | .sum => sumS | .any => anyS | .all => allS | .list => listS | .tuple => tupleS
  | _ => fun _ _ => none

/-- the methods of the kinds -/
def mtT : Mt → Ty → Bool
  | .append, .lst => true
  | .extend, .lst => true
  | .pop, .lst => true
  | .count, .lst => true
  | .index, .lst => true
  | .get, .dct => true
  | .setdefault, .dct => true
  | _, _ => false

mutual
inductive G where
  | n (i : Nat) | t (gs : Gs)
inductive Gs where
  | nil | cons (g : G) (gs : Gs)
end
mutual
inductive E where
  | k (d : D) | v (i : Nat)
  | tup (es : Es) | lst (es : Es) | dct (ps : Ps)
  | op (o : Op2) (a b : E) | chain (o p : Op2) (a b c : E)
  | neg (a : E) | not (a : E) | and (a b : E) | or (a b : E) | ite (c a b : E)
  | sl (a : E) (lo hi : Eo) | rev (a : E)
  | call (f : Nat) (es : Es)
  | bi (b : Bi) (es : Es) | isi (t : Ty) (a : E) | isx (c : Nat) (a : E)
  | mk (c : Nat) (es : Es) | fld (a : E) (f : Str)
  | mt (m : Mt) (o : E) (es : Es)
  | cp (g : G) (r : Ir) (c : Eo) (e : E) (own : List Nat)
  | cp2 (g : G) (r : Ir) (c : Eo) (g1 : G) (r1 : Ir) (c1 : Eo) (e : E) (own own1 : List Nat)
  | dc (g : G) (r : Ir) (c : Eo) (kx e : E) (own : List Nat)
inductive Es where
  | nil | cons (e : E) (es : Es)
inductive Ps where
  | nil | cons (k v : E) (ps : Ps)
inductive Eo where
  | no | so (e : E)
/-- what is gone through -/
inductive Ir where
  | of (e : E) | nm (i : Nat) | r1 (a : E) | r2 (a b : E) | en (e : E) | zp (a b : E) | kys (i : Nat) | vls (i : Nat) | its (i : Nat)
end
mutual
inductive S where
  | ex (e : E) | asg (g : G) (e : E) | sub (o i e : E) | par (i j : Nat) (a b : E) | aug (i : Nat) (o : Op2) (e : E)
  | ret (e : E) | retN | ite (c : E) (a b : Ss) | whl (c : E) (b : Ss) | loop (g : G) (r : Ir) (b : Ss)
  | brk | cnt | pas | rse (c : Nat) (es : Es) | tryAs (b : Ss) (c i j : Nat)
inductive Ss where
  | nil | cons (s : S) (ss : Ss)
end

/-! ### what must hold -/
def okS (r : Option (D × Hh)) (Q : PQ) : Prop := match r with
  | some (z, h) => Q z h
  | none => False
def okB (r : Option Bool) (Q : Bool → Prop) : Prop := match r with
  | some b => Q b
  | none => False
/-- a call of the f-th def -/
abbrev Cal := Nat → List D → Hh → PQ → PX → Prop
structure En where
  nx : Sl → Hh → Prop
  rt : D → Hh → Prop
  bk : Sl → Hh → Prop
  ct : Sl → Hh → Prop
  ex : Nat → List D → Sl → Hh → Prop

mutual
/-- the places that a target stores -/
def gAs (h : Hh) : G → D → Option (List (Nat × D))
  | .n i, d => some [(i, d)]
  | .t gs, .tup ds => gAss h gs ds
  | .t gs, .ref a => match asL h (.ref a) with
    | some ds => gAss h gs ds
    | none => none
  | .t _, _ => none
def gAss (h : Hh) : Gs → List D → Option (List (Nat × D))
  | .nil, [] => some []
  | .cons g gs, d :: ds => match gAs h g d, gAss h gs ds with
    | some a, some b => some (a ++ b)
    | _, _ => none
  | _, _ => none
end
def setA {α : Type} (τ : List (Option α)) (as : List (Nat × α)) : List (Option α) := as.foldl (fun τ p => τ.set p.1 (some p.2)) τ
def wG (g : G) (d : D) (k : Sl → Hh → Prop) (τ : Sl) (h : Hh) : Prop := match gAs h g d with
  | some as => k (setA τ as) h
  | none => False
def wipeA (τ : Sl) : List Nat → Sl
  | [] => τ
  | v :: vs => (wipeA τ vs).set v none
/-- the items, one behind the other: g holds at each turn -/
def wItems (g : Hh → Prop) (body : D → (Sl → Hh → Prop) → Sl → Hh → Prop) (nx : Sl → Hh → Prop) : List D → Sl → Hh → Prop
  | [], τ, h => g h ∧ nx τ h
  | d :: ds, τ, h => g h ∧ body d (wItems g body nx ds) τ h
/-- .. with a list that grows at a -/
def wAcc (g : Hh → Prop) (a : Nat) (elt : D → PQ → (Hh → Prop) → Hh → Prop) (k : Hh → Prop) : List D → Hh → Prop
  | [], h => g h ∧ k h
  | d :: ds, h => g h ∧ elt d (fun y h4 => match h4[a]? with
      | some (.lst acc) => acc.length < sizeLine ∧ wAcc g a elt k ds (h4.set a (.lst (acc ++ [y])))
      | _ => False) (wAcc g a elt k ds) h
/-- .. a dict -/
def wAccD (g : Hh → Prop) (a : Nat) (elt : D → (D → D → Hh → Prop) → (Hh → Prop) → Hh → Prop) (k : Hh → Prop) : List D → Hh → Prop
  | [], h => g h ∧ k h
  | d :: ds, h => g h ∧ elt d (fun x y h4 => match h4[a]?, x.ky with
      | some (.dct false acc), some q => acc.length < sizeLine ∧ wAccD g a elt k ds (h4.set a (.dct false (putKd acc q y)))
      | _, _ => False) (wAccD g a elt k ds) h
/-- a while -/
def wWhl (c : (Bool → Hh → Prop) → Sl → Hh → Prop) (b : (Sl → Hh → Prop) → Sl → Hh → Prop) (nx : Sl → Hh → Prop) (τ : Sl) (h : Hh) : Prop :=
  ∃ W : Nat → Sl → Hh → Prop, (∃ m, W m τ h) ∧ ∀ m τ h, W m τ h → c (fun t h1 => if t = true then b (fun τ' h' => ∃ m', m' < m ∧ W m' τ' h') τ h1 else nx τ h1) τ h
def rangeD (lo : Int) (n : Nat) : List D := (List.range n).map fun (i : Nat) => .int (lo + i)
def enumD (ds : List D) : List D := (List.range ds.length).zipWith (fun (i : Nat) d => .tup [.int i, d]) ds
def zipD (xs ys : List D) : List D := xs.zipWith (fun x y => .tup [x, y]) ys
/-- a source's guard and its items -/
abbrev KI := (Hh → Prop) → List D → Hh → Prop
def srcD (x : D) (k : KI) (h : Hh) : Prop := match x with
  | .tup ds => k (fun _ => True) ds h
  | .str l => k (fun _ => True) (l.map fun c => .str [c]) h
  | .ref a => match asL h (.ref a) with
    | some ds => k (fun h => asL h (.ref a) = some ds) ds h
    | none => False
  | _ => False
/-- a locked dict in a slot -/
def dctAt (τ : Sl) (h : Hh) (i : Nat) : Option (Nat × List (Ky × D)) := match τ[i]? with
  | some (some (.ref a)) => match h[a]? with
    | some (.dct true kvs) => some (a, kvs)
    | _ => none
  | _ => none
def dctIn (τ : Sl) (h : Hh) (i : Nat) (f : List (Ky × D) → List D) (k : KI) : Prop := match dctAt τ h i with
  | some (a, kvs) => k (fun h => h[a]? = some (.dct true kvs)) (f kvs) h
  | none => False
/-- a dict that is not locked yet, in a slot -/
def dctF (τ : Sl) (h : Hh) (i : Nat) : Option (Nat × List (Ky × D)) := match τ[i]? with
  | some (some (.ref a)) => match h[a]? with
    | some (.dct false kvs) => some (a, kvs)
    | _ => none
  | _ => none
/-- the dict that is gone through: it is locked meanwhile -/
def Ir.lk (τ : Sl) (h : Hh) : Ir → Option (Nat × List (Ky × D))
  | .nm i => dctF τ h i
  | .kys i => dctF τ h i
  | .vls i => dctF τ h i
  | .its i => dctF τ h i
  | _ => none
/-- what is wanted behind it, of the dict unlocked -/
def unlk (a : Nat) (kvs : List (Ky × D)) (k : Hh → Prop) (h : Hh) : Prop := h[a]? = some (.dct true kvs) ∧ k (h.set a (.dct false kvs))
def En.unlk (D : En) (a : Nat) (kvs : List (Ky × Mi.D)) : En :=
  { nx := fun τ h => Mi.unlk a kvs (D.nx τ) h, rt := fun v h => Mi.unlk a kvs (D.rt v) h, bk := fun τ h => Mi.unlk a kvs (D.bk τ) h, ct := fun τ h => Mi.unlk a kvs (D.ct τ) h, ex := D.ex }
/-- our classes of exceptions: e is c or below it; what a new one holds; its fields' places -/
structure Zi where
  nx : Nat
  le : Nat → Nat → Bool
  mkf : Nat → List D → Option (List D)
  fld : Nat → Str → Option Nat
def mergeKd (l m : List (Ky × D)) : List (Ky × D) := m.foldl (fun acc p => putKd acc p.1 p.2) l
def kysOf : List (D × D) → Option (List (Ky × D))
  | [] => some []
  | (a, b) :: r => match a.ky, kysOf r with
    | some k, some l => some ((k, b) :: l)
    | _, _ => none
mutual
def wE (Z : Zi) (C : Cal) : E → PQ → PX → Sl → Hh → Prop
  | .k d, Q, _, _, h => Q d h
  | .v i, Q, _, τ, h => match τ[i]? with
    | some (some d) => Q d h
    | _ => False
  | .tup es, Q, Qx, τ, h => wEs Z C es (fun ds h' => ds.length ≤ sizeLine ∧ Q (.tup ds) h') Qx τ h
  | .lst es, Q, Qx, τ, h => wEs Z C es (fun ds h' => ds.length ≤ sizeLine ∧ Q (.ref h'.length) (h' ++ [.lst ds])) Qx τ h
  | .dct ps, Q, Qx, τ, h => wPs Z C ps (fun ds h' => match kysOf ds with
      | some kvs => kvs.length ≤ 15 ∧ h'[h.length]? = some (.dct false []) ∧ Q (.ref h.length) (h'.set h.length (.dct false (mergeKd [] kvs)))
      | none => False) Qx τ (h ++ [.dct false []])
  | .op o a b, Q, Qx, τ, h => wE Z C a (fun x h1 => wE Z C b (fun y h2 => okS (o.sem h2 x y) Q) Qx τ h1) Qx τ h
  | .chain o p a b c, Q, Qx, τ, h => wE Z C a (fun x h1 => wE Z C b (fun y h2 => okS (o.sem h2 x y) fun z h3 => match z with
      | .bl t => if t = true then wE Z C c (fun w h4 => okS (p.sem h4 y w) Q) Qx τ h3 else Q (.bl false) h3
      | _ => False) Qx τ h1) Qx τ h
  | .neg a, Q, Qx, τ, h => wE Z C a (fun x h1 => match x with
      | .int i => Q (.int (-i)) h1
      | _ => False) Qx τ h
  | .not a, Q, Qx, τ, h => wE Z C a (fun x h1 => okB (truD h1 x) fun t => Q (.bl (!t)) h1) Qx τ h
  | .and a b, Q, Qx, τ, h => wE Z C a (fun x h1 => okB (truD h1 x) fun t => if t = true then wE Z C b Q Qx τ h1 else Q x h1) Qx τ h
  | .or a b, Q, Qx, τ, h => wE Z C a (fun x h1 => okB (truD h1 x) fun t => if t = true then Q x h1 else wE Z C b Q Qx τ h1) Qx τ h
  | .ite c a b, Q, Qx, τ, h => wE Z C c (fun x h1 => okB (truD h1 x) fun t => if t = true then wE Z C a Q Qx τ h1 else wE Z C b Q Qx τ h1) Qx τ h
  | .sl a lo hi, Q, Qx, τ, h => wE Z C a (fun x h1 => wO Z C lo (fun l h2 => wO Z C hi (fun u h3 => okS (slS h3 x l u) Q) Qx τ h2) Qx τ h1) Qx τ h
  | .rev a, Q, Qx, τ, h => wE Z C a (fun x h1 => match asL h1 x with
      | some ds => Q (.ref h1.length) (h1 ++ [.lst ds.reverse])
      | none => False) Qx τ h
  | .call f es, Q, Qx, τ, h => wEs Z C es (fun ds h' => C f ds h' Q Qx) Qx τ h
  | .bi b es, Q, Qx, τ, h => wEs Z C es (fun ds h' => okS (b.sem h' ds) Q) Qx τ h
  | .isi t a, Q, Qx, τ, h => wE Z C a (fun x h1 => okS (isiS t h1 x) Q) Qx τ h
  | .isx c a, Q, Qx, τ, h => wE Z C a (fun x h1 => match x with
      | .exn e _ => e < Z.nx ∧ Q (.bl (Z.le e c)) h1
      | .non => Q (.bl false) h1
      | _ => False) Qx τ h
  | .mk c es, Q, Qx, τ, h => wEs Z C es (fun ds h1 => match Z.mkf c ds with
      | some fs => Q (.exn c fs) h1
      | none => False) Qx τ h
  | .fld a f, Q, Qx, τ, h => wE Z C a (fun x h1 => match x with
      | .exn e fs => e < Z.nx ∧ (match Z.fld e f with
        | some i => (match fs[i]? with
          | some y => Q y h1
          | none => False)
        | none => False)
      | _ => False) Qx τ h
  | .mt m o es, Q, Qx, τ, h => wE Z C o (fun x h1 => match recT h1 x with
      | some ty => mtT m ty = true ∧ wEs Z C es (fun ds h2 => okS (mtS m ty h2 (x :: ds)) Q) Qx τ h1
      | none => False) Qx τ h
  | .cp g r c e own, Q, Qx, τ, h => match r.lk τ h with
    | none => wI Z C r (fun gd ds h1 => wAcc gd h1.length (fun d q sk h2 => wG g d (fun τ1 h3 => wT Z C c (fun t h4 => if t = true then wE Z C e q (fun _ _ _ => False) τ1 h4 else sk h4) (fun _ _ _ => False) τ1 h3) (wipeA τ own) h2)
        (Q (.ref h1.length)) ds (h1 ++ [.lst []])) Qx τ h
    | some (a, kvs) => wI Z C r (fun gd ds h1 => wAcc gd h1.length (fun d q sk h2 => wG g d (fun τ1 h3 => wT Z C c (fun t h4 => if t = true then wE Z C e q (fun _ _ _ => False) τ1 h4 else sk h4) (fun _ _ _ => False) τ1 h3) (wipeA τ own) h2)
        (unlk a kvs (Q (.ref h1.length))) ds (h1 ++ [.lst []])) Qx τ (h.set a (.dct true kvs))
  | .cp2 g r c g1 r1 c1 e own own1, Q, Qx, τ, h => wI Z C r (fun gd ds h1 => wAcc gd h1.length (fun d _ sk h2 => wG g d (fun τ1 h3 => wT Z C c (fun t h4 => if t = true then
        wI Z C r1 (fun gd1 ds1 h5 => wAcc gd1 h1.length (fun d1 q1 sk1 h6 => wG g1 d1 (fun τ2 h7 => wT Z C c1 (fun t1 h8 => if t1 = true then wE Z C e q1 (fun _ _ _ => False) τ2 h8 else sk1 h8) (fun _ _ _ => False) τ2 h7) (wipeA τ1 own1) h6) sk ds1 h5) (fun _ _ _ => False) τ1 h4
        else sk h4) (fun _ _ _ => False) τ1 h3) (wipeA τ own) h2) (Q (.ref h1.length)) ds (h1 ++ [.lst []])) Qx τ h
  | .dc g r c kx e own, Q, Qx, τ, h => match r.lk τ h with
    | none => wI Z C r (fun gd ds h1 => wAccD gd h1.length (fun d q sk h2 => wG g d (fun τ1 h3 => wT Z C c (fun t h4 => if t = true then wE Z C kx (fun x h5 => wE Z C e (q x) (fun _ _ _ => False) τ1 h5) (fun _ _ _ => False) τ1 h4 else sk h4) (fun _ _ _ => False) τ1 h3) (wipeA τ own) h2)
        (Q (.ref h1.length)) ds (h1 ++ [.dct false []])) Qx τ h
    | some (a, kvs) => wI Z C r (fun gd ds h1 => wAccD gd h1.length (fun d q sk h2 => wG g d (fun τ1 h3 => wT Z C c (fun t h4 => if t = true then wE Z C kx (fun x h5 => wE Z C e (q x) (fun _ _ _ => False) τ1 h5) (fun _ _ _ => False) τ1 h4 else sk h4) (fun _ _ _ => False) τ1 h3) (wipeA τ own) h2)
        (unlk a kvs (Q (.ref h1.length))) ds (h1 ++ [.dct false []])) Qx τ (h.set a (.dct true kvs))
def wEs (Z : Zi) (C : Cal) : Es → (List D → Hh → Prop) → PX → Sl → Hh → Prop
  | .nil, Q, _, _, h => Q [] h
  | .cons e es, Q, Qx, τ, h => wE Z C e (fun d h1 => wEs Z C es (fun ds h2 => Q (d :: ds) h2) Qx τ h1) Qx τ h
def wPs (Z : Zi) (C : Cal) : Ps → (List (D × D) → Hh → Prop) → PX → Sl → Hh → Prop
  | .nil, Q, _, _, h => Q [] h
  | .cons k v ps, Q, Qx, τ, h => wE Z C k (fun x h1 => wE Z C v (fun y h2 => wPs Z C ps (fun ds h3 => Q ((x, y) :: ds) h3) Qx τ h2) Qx τ h1) Qx τ h
def wO (Z : Zi) (C : Cal) : Eo → (Option Int → Hh → Prop) → PX → Sl → Hh → Prop
  | .no, Q, _, _, h => Q none h
  | .so e, Q, Qx, τ, h => wE Z C e (fun x h1 => match x with
      | .int i => Q (some i) h1
      | _ => False) Qx τ h
/-- a clause's test -/
def wT (Z : Zi) (C : Cal) : Eo → (Bool → Hh → Prop) → PX → Sl → Hh → Prop
  | .no, Q, _, _, h => Q true h
  | .so e, Q, Qx, τ, h => wE Z C e (fun x h1 => okB (truD h1 x) fun t => Q t h1) Qx τ h
def wI (Z : Zi) (C : Cal) : Ir → KI → PX → Sl → Hh → Prop
  | .of e, k, Qx, τ, h => wE Z C e (fun x h1 => srcD x k h1) Qx τ h
  | .nm i, k, _, τ, h => match dctAt τ h i with
    | some (a, kvs) => k (fun h => h[a]? = some (.dct true kvs)) (kvs.map fun p => p.1.d) h
    | none => match τ[i]? with
      | some (some x) => srcD x k h
      | _ => False
  | .r1 a, k, Qx, τ, h => wE Z C a (fun x h1 => match x with
      | .int j => (-(2 ^ 62) ≤ j ∧ j < 2 ^ 62) ∧ k (fun _ => True) (rangeD 0 j.toNat) h1
      | _ => False) Qx τ h
  | .r2 a b, k, Qx, τ, h => wE Z C a (fun x h1 => wE Z C b (fun y h2 => match x, y with
      | .int i, .int j => (-(2 ^ 62) ≤ i ∧ i < 2 ^ 62 ∧ -(2 ^ 62) ≤ j ∧ j < 2 ^ 62) ∧ k (fun _ => True) (rangeD i (j - i).toNat) h2
      | _, _ => False) Qx τ h1) Qx τ h
  | .en e, k, Qx, τ, h => wE Z C e (fun x h1 => match asL h1 x with
      | some ds => k (fun h => asL h x = some ds) (enumD ds) h1
      | none => False) Qx τ h
  | .zp a b, k, Qx, τ, h => wE Z C a (fun x h1 => wE Z C b (fun y h2 => match asL h2 x, asL h2 y with
      | some xs, some ys => k (fun h => asL h x = some xs ∧ asL h y = some ys) (zipD xs ys) h2
      | _, _ => False) Qx τ h1) Qx τ h
  | .kys i, k, _, τ, h => dctIn τ h i (fun kvs => kvs.map fun p => p.1.d) k
  | .vls i, k, _, τ, h => dctIn τ h i (fun kvs => kvs.map fun p => p.2) k
  | .its i, k, _, τ, h => dctIn τ h i (fun kvs => kvs.map fun p => .tup [p.1.d, p.2]) k
end
def En.px (D : En) (τ : Sl) : PX := fun c fs h => D.ex c fs τ h
mutual
def wS (Z : Zi) (C : Cal) : S → En → Sl → Hh → Prop
  | .ex e, D, τ, h => wE Z C e (fun _ h1 => D.nx τ h1) (D.px τ) τ h
  | .asg g e, D, τ, h => wE Z C e (fun d h1 => wG g d D.nx τ h1) (D.px τ) τ h
  | .sub o i e, D, τ, h => wE Z C e (fun d h1 => wE Z C o (fun x h2 => wE Z C i (fun y h3 => match x with
      | .ref a => (match h3[a]? with
        | some (.lst xs) => (match y with
          | .int k => (match ixN xs.length k with
            | some j => D.nx τ (h3.set a (.lst (xs.set j d)))
            | none => False)
          | _ => False)
        | some (.dct false kvs) => (match y.ky with
          | some q => kvs.length < sizeLine ∧ D.nx τ (h3.set a (.dct false (putKd kvs q d)))
          | none => False)
        | _ => False)
      | _ => False) (D.px τ) τ h2) (D.px τ) τ h1) (D.px τ) τ h
  | .par i j a b, D, τ, h => wE Z C a (fun x h1 => wE Z C b (fun y h2 => D.nx ((τ.set i (some x)).set j (some y)) h2) (D.px τ) τ h1) (D.px τ) τ h
  | .aug i o e, D, τ, h => match τ[i]? with
    | some (some x) => wE Z C e (fun y h1 => match o, x, y with
      | .add, .int a, .int b => D.nx (τ.set i (some (.int (a + b)))) h1
      | .sub, .int a, .int b => D.nx (τ.set i (some (.int (a - b)))) h1
      | _, _, _ => False) (D.px τ) τ h
    | _ => False
  | .ret e, D, τ, h => wE Z C e D.rt (D.px τ) τ h
  | .retN, D, _, h => D.rt .non h
  | .ite c a b, D, τ, h => wE Z C c (fun x h1 => okB (truD h1 x) fun t => if t = true then wSs Z C a D τ h1 else wSs Z C b D τ h1) (D.px τ) τ h
  | .whl c b, D, τ, h => wWhl (fun k τ1 h1 => wE Z C c (fun x h2 => okB (truD h2 x) fun t => k t h2) (D.px τ1) τ1 h1) (fun k τ1 h1 => wSs Z C b { D with nx := k, ct := k, bk := D.nx } τ1 h1) D.nx τ h
  | .loop g r b, D, τ, h => match r.lk τ h with
    | none => wI Z C r (fun gd ds h1 => wItems gd (fun d k τ1 h2 => wG g d (fun τ2 h3 => wSs Z C b { D with nx := k, ct := k, bk := D.nx } τ2 h3) τ1 h2) D.nx ds τ h1) (D.px τ) τ h
    | some (a, kvs) => wI Z C r (fun gd ds h1 => wItems gd (fun d k τ1 h2 => wG g d (fun τ2 h3 => wSs Z C b { D.unlk a kvs with nx := k, ct := k, bk := (D.unlk a kvs).nx } τ2 h3) τ1 h2) (D.unlk a kvs).nx ds τ h1) (D.px τ) τ (h.set a (.dct true kvs))
  | .brk, D, τ, h => D.bk τ h
  | .cnt, D, τ, h => D.ct τ h
  | .pas, D, τ, h => D.nx τ h
  | .rse c es, D, τ, h => wEs Z C es (fun ds h1 => match Z.mkf c ds with
      | some fs => D.ex c fs τ h1
      | none => False) (D.px τ) τ h
  | .tryAs b c i j, D, τ, h => wSs Z C b { D with ex := fun e fs τ1 h1 => e < Z.nx ∧ if Z.le e c = true then D.nx (((τ1.set i (some (.exn e fs))).set j (some (.exn e fs))).set i none) h1 else D.ex e fs τ1 h1 } τ h
def wSs (Z : Zi) (C : Cal) : Ss → En → Sl → Hh → Prop
  | .nil, D, τ, h => D.nx τ h
  | .cons s ss, D, τ, h => wS Z C s { D with nx := wSs Z C ss D } τ h
end
end Mi

set_option Elab.async false
set_option linter.all false
set_option maxRecDepth 100000
set_option maxHeartbeats 1000000
/-! Mi: a caught exception is kept in a name. -/
namespace L2
open PySem PySem.Spec PyProof.Rows
section
variable {X : Cx} {pins : List (Addr × Obj)} {σ : L2.St} {H : Hp} {s : Shared} {a : Addr} {o : HO}
/-- an object that has come meanwhile is tracked -/
theorem Inv.track (I : Inv X pins σ H s) (na : H a = none) (n0 : X.s_0.heap.get? a = none) (nL : a ≠ X.env.locals) (nc : ∀ x c, X.env.cells.lookup x = some c → c ≠ a) (np : ∀ p ∈ X.pn ++ pins, p.1 ≠ a)
    (new : ObjOk X.prog X.w (upd H a o) s.heap a o) : Inv X pins σ (upd H a o) s where
  ok := I.ok
  os := I.os
  bare := I.bare
  base :=
    { keep := I.base.keep
      slot := I.base.slot
      free := fun b u e n hx => by
        rw [upd_ne (fun z => by rw [z, n0] at e; cases e)]
        exact I.base.free b u e n hx
      there := I.base.there
      tups := fun b xs e => by
        have q := I.base.tups b xs e
        rw [upd_ne (ne_of_none q na)]
        exact q
      frzs := fun b u v e => by
        have q := I.base.frzs b u v e
        rw [upd_ne (ne_of_none q na)]
        exact q
      tbls := fun b ps e => by
        obtain ⟨m, q⟩ := I.base.tbls b ps e
        exact ⟨m, by rw [upd_ne (ne_of_none q na)]; exact q⟩ }
  loc := I.loc
  cell := I.cell
  free := by rw [upd_ne nL.symm]; exact I.free
  freeC := fun x c e => by rw [upd_ne (nc x c e)]; exact I.freeC x c e
  pin := fun p hp => by
    obtain ⟨e, n, r⟩ := I.pin p hp
    exact ⟨e, by rw [upd_ne (np p hp)]; exact n, r⟩
  hok := I.hok.laidN (fun _ _ q => q) na new
  len := I.len
theorem Inv.suite0 (I : Inv X pins σ H s) (a : Addr) : Inv (X.suite a (X.pn ++ pins)) [] σ H s :=
  ⟨I.ok.suite _ _, I.os, I.bare, I.base, I.loc, I.cell, I.free, I.freeC, fun p hp => I.pin p (by rw [List.append_nil] at hp; exact hp), I.hok, I.len⟩
theorem Inv.unsuite0 {pn' : List (Addr × Obj)} (I : Inv (X.suite a (X.pn ++ pins)) pn' σ H s) (ok : X.Ok) : Inv X pins σ H s :=
  ⟨ok, I.os, I.bare, I.base, I.loc, I.cell, I.free, I.freeC, fun p hp => I.pin p (List.mem_append_left _ hp), I.hok, I.len⟩
end
/-- what the clause 'except x as n: m = n' wishes: i is n's slot, j is m's -/
def wTr (K : PySem.W.Frag) (c : Value) (i j : Nat) (Wout : WX) (D : Ends) : WX := fun cls d σ H => ∃ b C, cls = .ref C ∧ PySem.W.exmOne K cls c = some b ∧
  (b = true → ∀ a, H a = none → D.nx (((σ.set i (some (.ref a))).set j (some (.ref a))).set i none) (upd H a (Mi.ExH C d a))) ∧ (b = false → Wout cls d σ H)
section
variable {X : Cx} {body : List Stmt} {x n m : Str} {c : Value} {i j : Nat} {Wout : WX} {tb : WX → TS} {np pos pos' py pv' pa : Pos}
theorem ps_try_keep (hs : X.stack = X.env :: X.outer) (hf : X.env.frame = some X.env.locals) (hN : X.N.Nodup) (hi : X.N[i]? = some n) (hln : X.env.kindOf n = some .local) (hj : X.N[j]? = some m) (hlm : Loc X.env.scope m) (hfm : X.fn m = true ∨ X.env.scope.names.lookup m = some .local)
    (hd : (n == ("__debug__" : Str)) = false) (hcd : (n == ("__classdict__" : Str)) = false) (hc : Names X x c) (tk : Takes X Wout) (hex : X.ex = [])
    (hb : ∀ (W : WX) (pn : List (Addr × Obj)) (xe : Value → Shared → Prop), Takes (X.tr pn xe) W → PassesOwn (model X.prog X.w) X.A X.env xe → PSs (X.tr pn xe) body (tb W)) :
    PS X (.Try body [.ExceptHandler (some (.Name x np)) (some n) [.Assign [.Name m py] (.Name n pv') pa] pos'] [] [] pos) (fun D σ H => tb (wTr X.K c i j Wout D) D σ H) := by
  refine ⟨fun pins s σ H D I h => ?_⟩
  have ok := I.ok
  have hfr : X.A.frames = some (X.env :: X.outer) := by rw [ok.frames, hs]
  refine wpAny_Try_except ?_
  refine wpAny_mono ((hb (wTr X.K c i j Wout D) (X.pn ++ pins) (fun e s₁ => wpAny (model X.prog X.w) X.A (noteFrame e X.env) (fun _ s₂ => wpAny (model X.prog X.w) X.A (setFlight e none) (fun _ s₃ =>
    wpAny (model X.prog X.w) X.A (handleBy e X.env [.ExceptHandler (some (.Name x np)) (some n) [.Assign [.Name m py] (.Name n pv') pa] pos']) (SP X pins D) X.xe s₃) X.xe s₂) X.xe s₁) (fun u s' xx => ?_) PassesOwn.looking).run [] s σ H D (I.toTry _) h) (fun f s1 hsp => ?_) (fun e s1 he => he)
  · obtain ⟨a, B, sI, pins', σ', H', cls, d, rfl, J', nb, up, sky, na, os, ag, b, C, hcls, hb1, hyes, hno⟩ := xx
    have J : Inv X pins σ' H' sI := J'.ofTry ok
    have sky' : Sky B (X.env :: X.outer) a (Zc cls d) X.env.locals s'.heap := by rw [← hs]; exact sky
    show wpAny (model X.prog X.w) X.A (noteFrame (.ref a) X.env) _ _ _
    refine Sky.land Zc.steady hfr hf sky' fun h3 fl3 up3 => ?_
    have J3 : Inv X pins σ' H' { s' with heap := h3 } := J.landed nb fl3.1 (up.trans up3) os ag
    obtain ⟨oe3, vs3, he3, hz3, hd3⟩ := fl3.there
    have nfr : a ∉ frs (X.env :: X.outer) := fun hm => by
      obtain ⟨_, o', e', hnf⟩ := fl3.2.2.1.mem hm
      rw [he3] at e'; cases e'
      exact hnf _ hd3
    have nL : a ≠ X.env.locals := fun z => nfr (List.mem_filterMap.mpr ⟨X.env, List.mem_cons_self, by rw [hf, z]⟩)
    have nF : a ∉ X.fs := fun hm => by
      obtain ⟨e, he, q⟩ := List.mem_filterMap.mp hm
      exact nfr (List.mem_filterMap.mpr ⟨e, List.mem_cons_of_mem _ he, q⟩)
    have nI : sI.heap.get? a = none := by
      cases e : sI.heap.get? a with
      | none => rfl
      | some o =>
        have q := nb a o e (by rw [hs]; exact nfr)
        rw [fl3.2.1] at q; cases q
    have n0 : X.s_0.heap.get? a = none := by
      cases e : X.s_0.heap.get? a with
      | none => rfl
      | some o =>
        obtain ⟨o', q⟩ := J.base.there a o e (by rw [hex]; exact fun z => nomatch z)
        rw [nI] at q; cases q
    have S3 : Inv (X.suite a (X.pn ++ pins)) [] σ' H' { s' with heap := h3 } := J3.suite0 a
    refine wpAny_handleBy_cons (codeAny_handlers_test ?_) (by intro q; cases q)
    have LT : PySem.W.Looks (model X.prog X.w) h3 (typeOf (.ref a)) cls := fun A Q E s k q => wpAny_typeOf_ref (k _ _ he3) (by rw [hz3.1]; exact q)
    have LM := PySem.W.exm_one (M := model X.prog X.w) (J3.kIn) LT hb1
    have test : ∀ {Q : Value → Shared → Prop} {E : Value → Shared → Prop}, Q c { s' with heap := h3 } → wpAny (model X.prog X.w) (X.A.mark (some (.ref a))) (eval (.Name x np) X.env) Q E { s' with heap := h3 } := fun {Q E} q => by
      obtain ⟨hg, hdbg, hm | ⟨hm, hv, hnn⟩⟩ := hc
      · exact ld_glob (X := X.suite a (X.pn ++ pins)) S3 hg hm q hdbg
      · exact ld_blt (X := X.suite a (X.pn ++ pins)) S3 hg hm hv q hnn hdbg
    refine test (LM.here ?_)
    cases b with
    | true =>
      refine codeAny_handlers_suite_as ?_
      refine HandSPX.lands_againZ fl3 fun h4 fl4 up4 => ?_
      have J4 : Inv X pins σ' H' { s' with heap := h4 } := J.landed nb fl4.1 ((up.trans up3).trans up4) os ag
      obtain ⟨oe4, vs4, he4, hz4, hd4⟩ := fl4.there
      subst hcls
      have T4 : Inv X pins σ' (upd H' a (Mi.ExH C d a)) { s' with heap := h4 } := by
        refine J4.track na n0 nL (fun x c e z => ?_) (fun p hp z => ?_) ?_
        · obtain ⟨v, o, ho, _⟩ := J.cell x c e
          rw [z, nI] at ho; cases ho
        · have q := (J.pin p hp).1
          rw [z, nI] at q; cases q
        · exact ⟨⟨oe4, vs4, he4, hz4, hd4⟩, ⟨oe4, he4⟩, fun h1 h2 ⟨oe, vs, e1, e2, e3⟩ k => ⟨oe, vs, k _ e1, e2, e3⟩⟩
      refine store_ok (X := X.suite a (X.pn ++ pins)) (v := .ref a) (T4.suite0 a) hN hi (.inl hln) rfl (fun s5 S5 => ?_) (.inr hln)
      have hlen : i < σ'.length := by rw [J.len]; exact (List.getElem?_eq_some_iff.mp hi).1
      have P : PSs (X.suite a (X.pn ++ pins)) [.Assign [.Name m py] (.Name n pv') pa] (tAsg (tVar i) (gName j)) :=
        pss_one (ps_set (X := X.suite a (X.pn ++ pins)) hN hj hlm (pe_var (X := X.suite a (X.pn ++ pins)) hi (.inl hln) hd hcd) rfl hfm)
      refine wpAny_mono (P.run [] s5 _ _ { nx := fun σ6 H6 => σ6 = (σ'.set i (some (.ref a))).set j (some (.ref a)) ∧ H6 = upd H' a (Mi.ExH C d a), rt := fun _ _ => False } S5
        ⟨.ref a, List.getElem?_set_self hlen, rfl, rfl⟩) (fun f s6 hsp => ?_) (fun _ _ z => False.elim z)
      cases f with
      | next =>
        obtain ⟨σ6, H6, S6, rfl, rfl⟩ := hsp
        exact gone_ok (S6.unsuite0 ok) hN hi hln fun s7 J7 => ⟨_, _, J7, hyes rfl a na⟩
      | brk => obtain ⟨_, _, _, q⟩ := hsp; exact q.elim
      | cont => obtain ⟨_, _, _, q⟩ := hsp; exact q.elim
      | ret u => obtain ⟨_, _, _, _, _, q⟩ := hsp; exact q.elim
    | false =>
      show wpAny _ X.A (handleBy (.ref a) X.env []) _ _ _
      refine wpAny_handleBy_nil ?_
      obtain ⟨k1, k2, k3, oe, vs, T, oT, ts', he, hz, hd, h1, hr⟩ := id fl3
      unfold PySem.passOn
      refine wpAny_bind (wpAny_field he hd h1 ?_)
      rw [if_neg (show ¬ ((Value.ref T == Value.none) = true) from by simp)]
      have fin : wpAny (model X.prog X.w) X.A (setFlight (.ref a) X.env.frame) (fun _ s4 => wpAny (model X.prog X.w) X.A (throw (.ref a) : Sem Flow) (SP X pins D) X.xe s4) X.xe { s' with heap := h3 } := by
        rw [hf]
        refine HandSPX.setFlight_upZ fl3 fun h4 hh4 up4 => wpAny_throw (tk _ _ ?_)
        exact ⟨a, B, sI, pins, σ', H', cls, d, rfl, J, nb, (up.trans up3).trans up4, .inr (.inr (by rw [hs]; exact hh4)), na, os, ag, hno rfl⟩
      first
        | exact wpAny_bind (wpAny_pure (wpAny_bind fin))
        | exact wpAny_bind fin
  · cases f with
    | next =>
      obtain ⟨σ', H', J', q⟩ := hsp
      exact wpAny_execs_nil ⟨σ', H', J'.ofTry ok, q⟩
    | brk =>
      obtain ⟨σ', H', J', q⟩ := hsp
      exact ⟨σ', H', J'.ofTry ok, q⟩
    | cont =>
      obtain ⟨σ', H', J', q⟩ := hsp
      exact ⟨σ', H', J'.ofTry ok, q⟩
    | ret u =>
      obtain ⟨v, σ', H', J', r, q⟩ := hsp
      exact ⟨v, σ', H', J'.ofTry ok, r, q⟩
end
end L2

set_option Elab.async false
set_option linter.all false
set_option maxRecDepth 100000
set_option maxHeartbeats 1000000
/-! Mi: what holds ahead of an expression, lifted to the layer's readings. -/
namespace Mi
open PySem PySem.Spec PyProof.Rows L2

abbrev LQ (T : Tab) (ρ : List Addr) (H : Hp) (Qa : PQ) (Q : VK) : Prop := ∀ ρ' H' h' d v, Aft T ρ H ρ' h' H' → RelD T ρ' H' d v → Qa d h' → Q v H'
abbrev LX (T : Tab) (ρ : List Addr) (H : Hp) (Qx : PX) (W : WX) (σ : L2.St) : Prop := ∀ ρ' H' h' c fs cls dx, Aft T ρ H ρ' h' H' → RelX T ρ' H' c fs cls dx → Qx c fs h' → W cls dx σ H'
/-- what holds ahead of an expression -/
abbrev EW := PQ → PX → Sl → Hh → Prop
abbrev BW := (Bool → Hh → Prop) → PX → Sl → Hh → Prop
abbrev AW := (List D → Hh → Prop) → PX → Sl → Hh → Prop
abbrev OW := (Option Int → Hh → Prop) → PX → Sl → Hh → Prop
def liftE (T : Tab) (W : WX) (w : EW) : TE := fun σ H Q => ∃ ρ τ h Qa Qx, Rp T ρ h H ∧ RelS T ρ H τ σ ∧ w Qa Qx τ h ∧ LQ T ρ H Qa Q ∧ LX T ρ H Qx W σ
def liftB (T : Tab) (W : WX) (w : BW) : TT := fun σ H Q => ∃ ρ τ h Qa Qx, Rp T ρ h H ∧ RelS T ρ H τ σ ∧ w Qa Qx τ h ∧ (∀ ρ' H' h' b, Aft T ρ H ρ' h' H' → Qa b h' → Q b H') ∧ LX T ρ H Qx W σ
def liftA (T : Tab) (W : WX) (w : AW) : TA := fun σ H Q => ∃ ρ τ h Qa Qx, Rp T ρ h H ∧ RelS T ρ H τ σ ∧ w Qa Qx τ h ∧ (∀ ρ' H' h' ds vs, Aft T ρ H ρ' h' H' → RelDs T ρ' H' ds vs → Qa ds h' → Q vs H') ∧ LX T ρ H Qx W σ
def liftO (T : Tab) (W : WX) (w : OW) : TO := fun σ H Q => ∃ ρ τ h Qa Qx, Rp T ρ h H ∧ RelS T ρ H τ σ ∧ w Qa Qx τ h ∧ (∀ ρ' H' h' o, Aft T ρ H ρ' h' H' → Qa o h' → Q o H') ∧ LX T ρ H Qx W σ
/-- its truth -/
def tst (w : EW) : BW := fun Q Qx τ h => w (fun x h1 => okB (truD h1 x) fun t => Q t h1) Qx τ h

section
variable {X : Cx} {T : Tab} {W : WX} {ρ ρ' : List Addr} {H H' : Hp} {h h' : Hh} {σ : L2.St} {τ : Sl} {Qx : PX}
theorem LX.aft (x : LX T ρ H Qx W σ) (a : Aft T ρ H ρ' h' H') : LX T ρ' H' Qx W σ := fun _ _ _ _ _ _ _ b r q => x _ _ _ _ _ _ _ (a.trans b) r q
theorem lift1 {w : EW} {Ra : PQ} {K : VK} (R : Rp T ρ h H) (S : RelS T ρ H τ σ) (hx : LX T ρ H Qx W σ) (hw : w Ra Qx τ h) (k : ∀ ρ' H' h' d v, Aft T ρ H ρ' h' H' → RelD T ρ' H' d v → Ra d h' → K v H') : liftE T W w σ H K :=
  ⟨ρ, τ, h, Ra, Qx, R, S, hw, k, hx⟩
theorem lift2 {wa wb : EW} {Ra : D → D → Hh → Prop} {K : V → V → Hp → Prop} (R : Rp T ρ h H) (S : RelS T ρ H τ σ) (hx : LX T ρ H Qx W σ) (hw : wa (fun x h1 => wb (fun y h2 => Ra x y h2) Qx τ h1) Qx τ h)
    (k : ∀ ρ' H' h' d e v u, Aft T ρ H ρ' h' H' → RelD T ρ' H' d v → RelD T ρ' H' e u → Ra d e h' → K v u H') : liftE T W wa σ H fun x H1 => liftE T W wb σ H1 fun y H2 => K x y H2 :=
  lift1 R S hx hw fun ρ1 H1 h1 d v a rd q => lift1 a.rp (a.s S) (hx.aft a) q fun ρ2 H2 h2 e u b re q2 => k _ _ _ _ _ _ _ (a.trans b) (b.d rd) re q2
theorem liftT1 {w : BW} {Ra : Bool → Hh → Prop} {K : Bool → Hp → Prop} (R : Rp T ρ h H) (S : RelS T ρ H τ σ) (hx : LX T ρ H Qx W σ) (hw : w Ra Qx τ h) (k : ∀ ρ' H' h' b, Aft T ρ H ρ' h' H' → Ra b h' → K b H') : liftB T W w σ H K :=
  ⟨ρ, τ, h, Ra, Qx, R, S, hw, k, hx⟩
theorem okS_ans {r : Option (D × Hh)} {Qa : PQ} {Q : VK} (q : okS r Qa) (k : ∀ z h', Qa z h' → ∀ ρ' H' v, Aft T ρ H ρ' h' H' → RelD T ρ' H' z v → Q v H') : Ans T ρ H r Q := by
  unfold okS at q
  split at q
  · next z h' => exact ⟨z, h', rfl, k z h' q⟩
  · exact q.elim
theorem okB_of {r : Option Bool} {Q : Bool → Prop} (q : okB r Q) : ∃ b, r = some b ∧ Q b := by
  unfold okB at q
  split at q
  · next b => exact ⟨b, rfl, q⟩
  · exact q.elim
theorem PE.imp {e : Expr} {t t' : TE} (p : PE X e t) (i : ∀ σ H Q, t' σ H Q → t σ H Q) : PE X e t' := ⟨fun pins s σ H Q I w => p.run pins s σ H Q I (i σ H Q w)⟩
theorem PT.imp {e : Expr} {t t' : TT} (p : PT X e t) (i : ∀ σ H Q, t' σ H Q → t σ H Q) : PT X e t' := ⟨fun pins s σ H Q I w => p.run pins s σ H Q I (i σ H Q w)⟩
theorem PA.imp {es : List Expr} {t t' : TA} (p : PA X es t) (i : ∀ σ H Q, t' σ H Q → t σ H Q) : PA X es t' := ⟨fun pos pins s σ H Q I w => p.run pos pins s σ H Q I (i σ H Q w)⟩
theorem PS.imp {st : Stmt} {t t' : TS} (p : PS X st t) (i : ∀ D σ H, t' D σ H → t D σ H) : PS X st t' := ⟨fun pins s σ H D I w => p.run pins s σ H D I (i D σ H w)⟩
theorem PSs.imp {st : List Stmt} {t t' : TS} (p : PSs X st t) (i : ∀ D σ H, t' D σ H → t D σ H) : PSs X st t' := ⟨fun pins s σ H D I w => p.run pins s σ H D I (i D σ H w)⟩
/-- a test, by values -/
theorem tru_rT (hK : X.K = T.K) : TruR X (rTru T) := by
  intro pins s σ H x v Q I rv q
  obtain ⟨ρ, h, d, b, R, rd, e, q⟩ := q
  exact tru_run hK I R rd rv e fun s' I' => ⟨H, I', q⟩
theorem tst_of {Qa : Bool → Hh → Prop} {Q : Bool → Hp → Prop} (k : ∀ ρ' H' h' b, Aft T ρ H ρ' h' H' → Qa b h' → Q b H') : ∀ ρ' H' h' d v, Aft T ρ H ρ' h' H' → RelD T ρ' H' d v → (okB (truD h' d) fun t => Qa t h') → rTru T v H' Q := fun ρ' H' h' d v a rd q => by
  obtain ⟨b, e, q⟩ := okB_of q
  exact ⟨ρ', h', d, b, a.rp, rd, e, k _ _ _ _ a q⟩

/-! ### names, constants -/
theorem me_k {e : Expr} {d : D} {v : V} (p : PE X e (tC v)) (r : ∀ ρ H, RelD T ρ H d v) : PE X e (liftE T W fun Q _ _ h => Q d h) := PE.imp p fun σ H Q ⟨ρ, τ, h, Qa, Qx, R, S, q, k, _⟩ => k _ _ _ _ _ (.refl R) (r ρ H) q
theorem me_v {i : Nat} {x : Str} {pos : Pos} (hN : X.N[i]? = some x) (hv : Vis X.env.scope x) (hd : (x == ("__debug__" : Str)) = false) (hcd : (x == ("__classdict__" : Str)) = false) :
    PE X (.Name x pos) (liftE T W fun Q _ τ h => match τ[i]? with
    | some (some d) => Q d h
    | _ => False) := PE.imp (pe_var hN hv hd hcd) fun σ H Q ⟨ρ, τ, h, Qa, Qx, R, S, q, k, _⟩ => by
  dsimp only at q
  split at q
  · next d e =>
    obtain ⟨v, e1, r⟩ := S.2 i d e
    exact ⟨v, e1, k _ _ _ _ _ (.refl R) r q⟩
  · exact q.elim

/-! ### argument lists, displays -/
theorem ma_nil : PA X [] (liftA T W fun Q _ _ h => Q [] h) := PA.imp pa_nil fun σ H Q ⟨ρ, τ, h, Qa, Qx, R, S, q, k, _⟩ => k _ _ _ _ _ (.refl R) .nil q
theorem ma_cons {e : Expr} {es : List Expr} {w : EW} {ws : AW} (ha : PE X e (liftE T W w)) (hr : PA X es (liftA T W ws)) (hs : starEach (e :: es) X.env = (false, eval e X.env) :: starEach es X.env) :
    PA X (e :: es) (liftA T W fun Q Qx τ h => w (fun d h1 => ws (fun ds h2 => Q (d :: ds) h2) Qx τ h1) Qx τ h) := PA.imp (pa_cons ha hr hs) fun σ H Q ⟨ρ, τ, h, Qa, Qx, R, S, q, k, hx⟩ =>
  lift1 R S hx q fun ρ1 H1 h1 d v a rd q1 => ⟨ρ1, τ, h1, _, Qx, a.rp, a.s S, q1, fun ρ2 H2 h2 ds vs b rs q2 => k _ _ _ _ _ (a.trans b) (.cons (b.d rd) rs) q2, hx.aft a⟩
theorem me_tup {es : List Expr} {x1 : Nat} {pos : Pos} {ws : AW} (ha : PA X es (liftA T W ws)) : PE X (.Tuple es x1 pos) (liftE T W fun Q Qx τ h => ws (fun ds h' => ds.length ≤ sizeLine ∧ Q (.tup ds) h') Qx τ h) :=
  PE.imp (pe_tup ha) fun σ H Q ⟨ρ, τ, h, Qa, Qx, R, S, q, k, hx⟩ => ⟨ρ, τ, h, _, Qx, R, S, q, fun ρ1 H1 h1 ds vs a rs ⟨z, q1⟩ =>
    ⟨by rw [← rs.length]; exact z, fun p hp => k _ _ _ _ _ (a.trans (.tup a.rp hp)) (tup_new hp rs) q1⟩, hx⟩
theorem me_lst {es : List Expr} {pos : Pos} {ws : AW} (ha : PA X es (liftA T W ws)) : PE X (.List es pos) (liftE T W fun Q Qx τ h => ws (fun ds h' => ds.length ≤ sizeLine ∧ Q (.ref h'.length) (h' ++ [.lst ds])) Qx τ h) :=
  PE.imp (pe_lst ha) fun σ H Q ⟨ρ, τ, h, Qa, Qx, R, S, q, k, hx⟩ => ⟨ρ, τ, h, _, Qx, R, S, q, fun ρ1 H1 h1 ds vs a rs ⟨z, q1⟩ =>
    ⟨by rw [← rs.length]; exact z, fun p hp => k _ _ _ _ _ (a.trans (.lst a.rp hp rs)) (ref_new a.rp) q1⟩, hx⟩

/-! ### operators -/
theorem r2_of {f : S2} {Qa : PQ} {Q : VK} (k : LQ T ρ H Qa Q) : ∀ ρ' H' h' d e v u, Aft T ρ H ρ' h' H' → RelD T ρ' H' d v → RelD T ρ' H' e u → okS (f h' d e) Qa → r2 T f v u H' Q := fun ρ' H' h' d e v u a rd re q =>
  ⟨ρ', h', d, e, a.rp, rd, re, okS_ans q fun z h2 q2 ρ2 H2 v b r => k _ _ _ _ _ (a.trans b) r q2⟩
theorem me_op {op : Operator} {f : S2} {a b : Expr} {pos : Pos} {wa wb : EW} (ho : OpR X (binaryOp op) (r2 T f)) (ha : PE X a (liftE T W wa)) (hb : PE X b (liftE T W wb)) :
    PE X (.BinOp a op b pos) (liftE T W fun Q Qx τ h => wa (fun x h1 => wb (fun y h2 => okS (f h2 x y) Q) Qx τ h1) Qx τ h) :=
  PE.imp (pe_op ho ha hb) fun σ H Q ⟨ρ, τ, h, Qa, Qx, R, S, q, k, hx⟩ => lift2 R S hx q (r2_of k)
theorem me_ix {f : S2} {a b : Expr} {pos : Pos} {wa wb : EW} (ho : IxR X (r2 T f)) (ha : PE X a (liftE T W wa)) (hb : PE X b (liftE T W wb)) (hs : PlainIx b) :
    PE X (.Subscript a b pos) (liftE T W fun Q Qx τ h => wa (fun x h1 => wb (fun y h2 => okS (f h2 x y) Q) Qx τ h1) Qx τ h) :=
  PE.imp (pe_ix ho ha hb hs) fun σ H Q ⟨ρ, τ, h, Qa, Qx, R, S, q, k, hx⟩ => lift2 R S hx q (r2_of k)
theorem me_cmp {op : CmpOp} {f : S2} {a b : Expr} {pos : Pos} {wa wb : EW} (ho : OpR X (compareOp op) (r2 T f)) (ha : PE X a (liftE T W wa)) (hb : PE X b (liftE T W wb)) (hm : behindInMarks op b = false) :
    PE X (.Compare a [op] [b] pos) (liftE T W fun Q Qx τ h => wa (fun x h1 => wb (fun y h2 => okS (f h2 x y) Q) Qx τ h1) Qx τ h) :=
  PE.imp (pe_cmpR ho ha hb hm) fun σ H Q ⟨ρ, τ, h, Qa, Qx, R, S, q, k, hx⟩ => lift2 R S hx q (r2_of k)
theorem mt_cmp (hK : X.K = T.K) {op : CmpOp} {f : S2} {a b : Expr} {pos : Pos} {wa wb : EW} (ho : OpR X (compareOp op) (r2 T f)) (ha : PE X a (liftE T W wa)) (hb : PE X b (liftE T W wb)) (hm : behindInMarks op b = false) :
    PT X (.Compare a [op] [b] pos) (liftB T W (tst fun Q Qx τ h => wa (fun x h1 => wb (fun y h2 => okS (f h2 x y) Q) Qx τ h1) Qx τ h)) := by
  refine ⟨fun pins s σ H Q I hw => ?_⟩
  obtain ⟨ρ, τ, h, Qa, Qx, R, S, q, k, hx⟩ := hw
  have z := lift2 (K := fun x y H' => r2 T f x y H' fun v H2 => rTru T v H2 Q) R S hx q fun ρ' H' h' d e v u a rd re q2 => r2_of (tst_of k) _ _ _ _ _ _ _ a rd re q2
  refine wpAny_isTrue_Compare1 (thn (ha.run pins s σ H _ I z) fun v s1 ⟨x, H1, I1, r1, q1⟩ => thn (hb.run pins s1 σ H1 _ I1 q1) fun u s2 ⟨y, H2, I2, r2, q2⟩ =>
    thn (ho pins s2 σ H2 x y v u _ I2 r1 r2 q2) fun c s3 ⟨z, H3, I3, r3, q3⟩ => tru_rT hK pins s3 σ H3 z c Q I3 r3 q3) hm
theorem me_un {f : Hh → D → Option (D × Hh)} {a : Expr} {pos : Pos} {op : UnaryOp} {wa : EW} (ho : UnR X (unaryOp op) fun x H Q => ∃ ρ h d, Rp T ρ h H ∧ RelD T ρ H d x ∧ Ans T ρ H (f h d) Q) (ha : PE X a (liftE T W wa)) :
    PE X (.UnaryOp op a pos) (liftE T W fun Q Qx τ h => wa (fun x h1 => okS (f h1 x) Q) Qx τ h) :=
  PE.imp (pe_un ho ha) fun σ H Q ⟨ρ, τ, h, Qa, Qx, R, S, q, k, hx⟩ => lift1 R S hx q fun ρ1 H1 h1 d v a rd q1 => ⟨ρ1, h1, d, a.rp, rd, okS_ans q1 fun z h2 q2 ρ2 H2 v b r => k _ _ _ _ _ (a.trans b) r q2⟩
theorem me_neg {a : Expr} {pos : Pos} {wa : EW} (ha : PE X a (liftE T W wa)) : PE X (.UnaryOp .USub a pos) (liftE T W fun Q Qx τ h => wa (fun x h1 => match x with
      | .int i => Q (.int (-i)) h1
      | _ => False) Qx τ h) :=
  PE.imp (pe_un un_neg ha) fun σ H Q ⟨ρ, τ, h, Qa, Qx, R, S, q, k, hx⟩ => lift1 R S hx q fun ρ1 H1 h1 d v a rd q1 => by
    split at q1
    · next i => cases relI rd; exact ⟨i, rfl, k _ _ _ _ _ a (.int _) q1⟩
    · exact q1.elim
/-- a op b op' c -/
def wChain (f g : S2) (wa wb wc : EW) : EW := fun Q Qx τ h => wa (fun x h1 => wb (fun y h2 => okS (f h2 x y) fun z h3 => match z with
      | .bl t => if t = true then wc (fun w h4 => okS (g h4 y w) Q) Qx τ h3 else Q (.bl false) h3
      | _ => False) Qx τ h1) Qx τ h
theorem chain_of {f g : S2} {wa wb wc : EW} {Qa : PQ} {Q : VK} (R : Rp T ρ h H) (S : RelS T ρ H τ σ) (hx : LX T ρ H Qx W σ) (q : wChain f g wa wb wc Qa Qx τ h) (k : LQ T ρ H Qa Q) :
    tChain (r2 T f) (r2 T g) (liftE T W wa) (liftE T W wb) (liftE T W wc) σ H Q :=
  lift2 R S hx q fun ρ1 H1 h1 d e v u a rd re q1 => ⟨ρ1, h1, d, e, a.rp, rd, re, okS_ans q1 fun z h2 q2 ρ2 H2 zv b rz => by
    try dsimp only at q2
    split at q2
    · next t =>
      refine ⟨t, relB rz, ?_⟩
      cases t with
      | false => simp only [Bool.false_eq_true, if_false] at q2 ⊢; exact k _ _ _ _ _ (a.trans b) (.bl false) q2
      | true =>
        simp only [if_true] at q2 ⊢
        exact lift1 b.rp (b.s (a.s S)) ((hx.aft a).aft b) q2 fun ρ3 H3 h3 w wv c rw q3 => ⟨ρ3, h3, e, w, c.rp, c.d (b.d re), rw, okS_ans q3 fun z h4 q4 ρ4 H4 v dd r => k _ _ _ _ _ (((a.trans b).trans c).trans dd) r q4⟩
    · exact q2.elim⟩
theorem me_chain {op op' : CmpOp} {f g : S2} {a b c : Expr} {pos : Pos} {wa wb wc : EW} (ho : OpR X (compareOp op) (r2 T f)) (ho' : OpR X (compareOp op') (r2 T g)) (ha : PE X a (liftE T W wa)) (hb : PE X b (liftE T W wb)) (hc : PE X c (liftE T W wc)) (hm : lastMarks [op, op'] [b, c] = false) :
    PE X (.Compare a [op, op'] [b, c] pos) (liftE T W (wChain f g wa wb wc)) :=
  PE.imp (pe_chain ho ho' ha hb hc hm) fun σ H Q ⟨ρ, τ, h, Qa, Qx, R, S, q, k, hx⟩ => chain_of R S hx q k
/-- as a test, where what comes is a bool -/
def Blf (f : S2) : Prop := ∀ h x y z h', f h x y = some (z, h') → ∃ b, z = .bl b
theorem mt_chain (hK : X.K = T.K) {op op' : CmpOp} {f g : S2} {a b c : Expr} {pos : Pos} {wa wb wc : EW} (hg : Blf g) (ho : OpR X (compareOp op) (r2 T f)) (ho' : OpR X (compareOp op') (r2 T g)) (ha : PE X a (liftE T W wa)) (hb : PE X b (liftE T W wb)) (hc : PE X c (liftE T W wc)) (hm : lastMarks [op, op'] [b, c] = false) :
    PT X (.Compare a [op, op'] [b, c] pos) (liftB T W (tst (wChain f g wa wb wc))) :=
  PT.imp (pt_chain ho ho' ha hb hc hm) fun σ H Q ⟨ρ, τ, h, Qa, Qx, R, S, q, k, hx⟩ => by
    refine lift2 R S hx q fun ρ1 H1 h1 d e v u a rd re q1 => ⟨ρ1, h1, d, e, a.rp, rd, re, okS_ans q1 fun z h2 q2 ρ2 H2 zv b rz => ?_⟩
    try dsimp only at q2
    split at q2
    · next t =>
      refine ⟨t, relB rz, ?_⟩
      cases t with
      | false =>
        simp only [Bool.false_eq_true, if_false] at q2 ⊢
        obtain ⟨b', e', q3⟩ := okB_of q2
        cases e'
        exact ⟨false, rfl, k _ _ _ _ (a.trans b) q3⟩
      | true =>
        simp only [if_true] at q2 ⊢
        refine lift1 b.rp (b.s (a.s S)) ((hx.aft a).aft b) q2 fun ρ3 H3 h3 w wv c rw q3 => ⟨ρ3, h3, e, w, c.rp, c.d (b.d re), rw, ?_⟩
        unfold okS at q3
        split at q3
        · next z h4 e4 =>
          obtain ⟨bb, rfl⟩ := hg _ _ _ _ _ e4
          obtain ⟨b', e', q5⟩ := okB_of q3
          cases e'
          refine ⟨_, _, e4, fun ρ4 H4 v dd r => ⟨bb, relB r, k _ _ _ _ (((a.trans b).trans c).trans dd) q5⟩⟩
        · exact q3.elim
    · exact q2.elim

/-! ### truth -/
theorem mt_true (hK : X.K = T.K) {a : Expr} {wa : EW} (ha : PE X a (liftE T W wa)) (he : ∀ whole, isTrue a X.env whole = (do let v ← whole; standAt a.pos; holding [v] (truthy v))) : PT X a (liftB T W (tst wa)) := by
  refine ⟨fun pins s σ H Q I hw => ?_⟩
  obtain ⟨ρ, τ, h, Qa, Qx, R, S, q, k, hx⟩ := hw
  exact isTrue_plain (thn (ha.run pins s σ H _ I (lift1 R S hx q (tst_of k))) fun v s1 ⟨x, H1, I1, r1, q1⟩ => tru_rT hK pins s1 σ H1 x v Q I1 r1 q1) (he _)
/-- from a test: its not, as a value and as a test -/
theorem me_not (hK : X.K = T.K) {a : Expr} {pos : Pos} {wa : EW} (ha : PE X a (liftE T W wa)) : PE X (.UnaryOp .Not a pos) (liftE T W fun Q Qx τ h => wa (fun x h1 => okB (truD h1 x) fun t => Q (.bl (!t)) h1) Qx τ h) := by
  refine ⟨fun pins s σ H Q I hw => ?_⟩
  obtain ⟨ρ, τ, h, Qa, Qx, R, S, q, k, hx⟩ := hw
  have z := lift1 (K := fun v H' => rTru T v H' fun t H2 => Q (.bl (!t)) H2) R S hx q (tst_of (Qa := fun t h1 => Qa (.bl (!t)) h1) fun ρ' H' h' b a q => k _ _ _ _ _ a (.bl _) q)
  refine UnaryOp_ (thn (ha.run pins s σ H _ I z) fun v s1 ⟨x, H1, I1, r1, q1⟩ => ?_)
  exact not_of (thn (tru_rT hK pins s1 σ H1 x v _ I1 r1 q1) fun c s2 ⟨H2, I2, q2⟩ => ⟨.bl (!c), H2, I2, rfl, q2⟩)
theorem mt_not {a : Expr} {pos : Pos} {wa : EW} (ha : PT X a (liftB T W (tst wa))) : PT X (.UnaryOp .Not a pos) (liftB T W (tst fun Q Qx τ h => wa (fun x h1 => okB (truD h1 x) fun t => Q (.bl (!t)) h1) Qx τ h)) :=
  PT.imp (pt_not ha) fun σ H Q ⟨ρ, τ, h, Qa, Qx, R, S, q, k, hx⟩ => liftT1 (Ra := fun t h1 => Qa (!t) h1) R S hx q fun ρ' H' h' b a q => k _ _ _ _ a q
/-- and, or -/
def wAnd (wa wb : EW) : EW := fun Q Qx τ h => wa (fun x h1 => okB (truD h1 x) fun t => if t = true then wb Q Qx τ h1 else Q x h1) Qx τ h
def wOr (wa wb : EW) : EW := fun Q Qx τ h => wa (fun x h1 => okB (truD h1 x) fun t => if t = true then Q x h1 else wb Q Qx τ h1) Qx τ h
theorem rTru_val {x : V} {R : V → Bool → Hp → Prop} (q : ∃ ρ h d b, Rp T ρ h H ∧ RelD T ρ H d x ∧ truD h d = some b ∧ R x b H) : rTru T x H fun b H' => R x b H' := q
theorem me_and (hK : X.K = T.K) {a b : Expr} {rest : List Expr} {pos : Pos} {wa wb : EW} (ha : PE X a (liftE T W wa)) (hb : PE X (.BoolOp .And (b :: rest) pos) (liftE T W wb)) : PE X (.BoolOp .And (a :: b :: rest) pos) (liftE T W (wAnd wa wb)) := by
  refine ⟨fun pins s σ H Q I hw => ?_⟩
  obtain ⟨ρ, τ, h, Qa, Qx, R, S, q, k, hx⟩ := hw
  have z := lift1 (K := fun v H' => ∃ ρ' h' d b, Rp T ρ' h' H' ∧ RelD T ρ' H' d v ∧ truD h' d = some b ∧ if b = true then liftE T W wb σ H' Q else Q v H') R S hx (show wa (fun x h1 => okB (truD h1 x) fun t => if t = true then wb Qa Qx τ h1 else Qa x h1) Qx τ h from q) fun ρ' H' h' d v a rd q1 => by
    obtain ⟨t, e, q1⟩ := okB_of q1
    refine ⟨ρ', h', d, t, a.rp, rd, e, ?_⟩
    cases t with
    | false => simp only [Bool.false_eq_true, if_false] at q1 ⊢; exact k _ _ _ _ _ a rd q1
    | true => simp only [if_true] at q1 ⊢; exact ⟨ρ', τ, h', Qa, Qx, a.rp, a.s S, q1, fun ρ2 H2 h2 d v b r q2 => k _ _ _ _ _ (a.trans b) r q2, hx.aft a⟩
  refine BoolOp_and (thn (ha.run pins s σ H _ I z) fun v s1 ⟨x, H1, I1, r1, ρ', h', d, t, R1, rd, e, q1⟩ => ?_)
  refine tru_run hK I1 R1 rd r1 e fun s2 I2 => ?_
  cases t with
  | true => exact hb.run pins s2 σ H1 Q I2 (by simpa using q1)
  | false => exact ⟨x, H1, I2, r1, by simpa using q1⟩
theorem me_or (hK : X.K = T.K) {a b : Expr} {rest : List Expr} {pos : Pos} {wa wb : EW} (ha : PE X a (liftE T W wa)) (hb : PE X (.BoolOp .Or (b :: rest) pos) (liftE T W wb)) : PE X (.BoolOp .Or (a :: b :: rest) pos) (liftE T W (wOr wa wb)) := by
  refine ⟨fun pins s σ H Q I hw => ?_⟩
  obtain ⟨ρ, τ, h, Qa, Qx, R, S, q, k, hx⟩ := hw
  have z := lift1 (K := fun v H' => ∃ ρ' h' d b, Rp T ρ' h' H' ∧ RelD T ρ' H' d v ∧ truD h' d = some b ∧ if b = true then Q v H' else liftE T W wb σ H' Q) R S hx (show wa (fun x h1 => okB (truD h1 x) fun t => if t = true then Qa x h1 else wb Qa Qx τ h1) Qx τ h from q) fun ρ' H' h' d v a rd q1 => by
    obtain ⟨t, e, q1⟩ := okB_of q1
    refine ⟨ρ', h', d, t, a.rp, rd, e, ?_⟩
    cases t with
    | true => simp only [if_true] at q1 ⊢; exact k _ _ _ _ _ a rd q1
    | false => simp only [Bool.false_eq_true, if_false] at q1 ⊢; exact ⟨ρ', τ, h', Qa, Qx, a.rp, a.s S, q1, fun ρ2 H2 h2 d v b r q2 => k _ _ _ _ _ (a.trans b) r q2, hx.aft a⟩
  refine BoolOp_or (thn (ha.run pins s σ H _ I z) fun v s1 ⟨x, H1, I1, r1, ρ', h', d, t, R1, rd, e, q1⟩ => ?_)
  refine tru_run hK I1 R1 rd r1 e fun s2 I2 => ?_
  cases t with
  | true => exact ⟨x, H1, I2, r1, by simpa using q1⟩
  | false => exact hb.run pins s2 σ H1 Q I2 (by simpa using q1)
theorem PW.imp {e : Expr} {t t' : TT} (p : PW X e t) (i : ∀ σ H Q, t' σ H Q → t σ H Q) : PW X e t' := ⟨fun wh pins s σ H Q I w => p.run wh pins s σ H Q I (i σ H Q w)⟩
theorem mw_and {a b : Expr} {rest : List Expr} {pos : Pos} {wa wb : EW} (ha : PT X a (liftB T W (tst wa))) (hb : PW X (.BoolOp .And (b :: rest) pos) (liftB T W (tst wb))) : PW X (.BoolOp .And (a :: b :: rest) pos) (liftB T W (tst (wAnd wa wb))) :=
  PW.imp (pw_and ha hb) fun σ H Q ⟨ρ, τ, h, Qa, Qx, R, S, q, k, hx⟩ => by
    refine liftT1 (Ra := fun t h1 => if t = true then tst wb Qa Qx τ h1 else Qa false h1) R S hx ?_ fun ρ' H' h' b a q1 => ?_
    · show wa _ Qx τ h
      have e : (fun x h1 => okB (truD h1 x) fun t => if t = true then tst wb Qa Qx τ h1 else Qa false h1) = fun x h1 => okB (truD h1 x) fun t => if t = true then wb (fun x h1 => okB (truD h1 x) fun t => Qa t h1) Qx τ h1 else okB (truD h1 x) fun t => Qa t h1 := by
        funext x h1
        cases hh : truD h1 x with
        | none => rfl
        | some t => cases t <;> rfl
      rw [e]
      exact q
    · cases b with
      | false => simp only [Bool.false_eq_true, if_false] at q1 ⊢; exact k _ _ _ _ a q1
      | true => simp only [if_true] at q1 ⊢; exact ⟨ρ', τ, h', Qa, Qx, a.rp, a.s S, q1, fun ρ2 H2 h2 t b q2 => k _ _ _ _ (a.trans b) q2, hx.aft a⟩
theorem mw_or {a b : Expr} {rest : List Expr} {pos : Pos} {wa wb : EW} (ha : PT X a (liftB T W (tst wa))) (hb : PW X (.BoolOp .Or (b :: rest) pos) (liftB T W (tst wb))) : PW X (.BoolOp .Or (a :: b :: rest) pos) (liftB T W (tst (wOr wa wb))) :=
  PW.imp (pw_or ha hb) fun σ H Q ⟨ρ, τ, h, Qa, Qx, R, S, q, k, hx⟩ => by
    refine liftT1 (Ra := fun t h1 => if t = true then Qa true h1 else tst wb Qa Qx τ h1) R S hx ?_ fun ρ' H' h' b a q1 => ?_
    · show wa _ Qx τ h
      have e : (fun x h1 => okB (truD h1 x) fun t => if t = true then Qa true h1 else tst wb Qa Qx τ h1) = fun x h1 => okB (truD h1 x) fun t => if t = true then okB (truD h1 x) fun t => Qa t h1 else wb (fun x h1 => okB (truD h1 x) fun t => Qa t h1) Qx τ h1 := by
        funext x h1
        cases hh : truD h1 x with
        | none => rfl
        | some t => cases t <;> rfl
      rw [e]
      exact q
    · cases b with
      | true => simp only [if_true] at q1 ⊢; exact k _ _ _ _ a q1
      | false => simp only [Bool.false_eq_true, if_false] at q1 ⊢; exact ⟨ρ', τ, h', Qa, Qx, a.rp, a.s S, q1, fun ρ2 H2 h2 t b q2 => k _ _ _ _ (a.trans b) q2, hx.aft a⟩
/-- a if c else b -/
def wIte (wc wa wb : EW) : EW := fun Q Qx τ h => wc (fun x h1 => okB (truD h1 x) fun t => if t = true then wa Q Qx τ h1 else wb Q Qx τ h1) Qx τ h
theorem me_ite {a b c : Expr} {pos : Pos} {wa wb wc : EW} (hc : PT X c (liftB T W (tst wc))) (ha : PE X a (liftE T W wa)) (hb : PE X b (liftE T W wb)) : PE X (.IfExp c a b pos) (liftE T W (wIte wc wa wb)) :=
  PE.imp (pe_ifExp hc ha hb) fun σ H Q ⟨ρ, τ, h, Qa, Qx, R, S, q, k, hx⟩ => by
    refine liftT1 (Ra := fun t h1 => if t = true then wa Qa Qx τ h1 else wb Qa Qx τ h1) R S hx q fun ρ' H' h' b a q1 => ?_
    cases b with
    | false => simp only [Bool.false_eq_true, if_false] at q1 ⊢; exact ⟨ρ', τ, h', Qa, Qx, a.rp, a.s S, q1, fun ρ2 H2 h2 d v b r q2 => k _ _ _ _ _ (a.trans b) r q2, hx.aft a⟩
    | true => simp only [if_true] at q1 ⊢; exact ⟨ρ', τ, h', Qa, Qx, a.rp, a.s S, q1, fun ρ2 H2 h2 d v b r q2 => k _ _ _ _ _ (a.trans b) r q2, hx.aft a⟩
theorem mt_ite {a b c : Expr} {pos : Pos} {wa wb wc : EW} (hc : PT X c (liftB T W (tst wc))) (ha : PT X a (liftB T W (tst wa))) (hb : PT X b (liftB T W (tst wb))) : PT X (.IfExp c a b pos) (liftB T W (tst (wIte wc wa wb))) := by
  refine ⟨fun pins s σ H Q I hw => ?_⟩
  obtain ⟨ρ, τ, h, Qa, Qx, R, S, q, k, hx⟩ := hw
  have z := liftT1 (w := tst wc) (K := fun t H' => if t = true then liftB T W (tst wa) σ H' Q else liftB T W (tst wb) σ H' Q) (Ra := fun t h1 => if t = true then tst wa Qa Qx τ h1 else tst wb Qa Qx τ h1) R S hx q fun ρ' H' h' b a q1 => by
    cases b with
    | false => simp only [Bool.false_eq_true, if_false] at q1 ⊢; exact ⟨ρ', τ, h', Qa, Qx, a.rp, a.s S, q1, fun ρ2 H2 h2 t b q2 => k _ _ _ _ (a.trans b) q2, hx.aft a⟩
    | true => simp only [if_true] at q1 ⊢; exact ⟨ρ', τ, h', Qa, Qx, a.rp, a.s S, q1, fun ρ2 H2 h2 t b q2 => k _ _ _ _ (a.trans b) q2, hx.aft a⟩
  refine isTrue_IfExp (thn (hc.run pins s σ H _ I z) fun d s1 ⟨H1, I1, q1⟩ => ?_)
  cases d with
  | true => exact ha.run pins s1 σ H1 Q I1 (by simpa using q1)
  | false => exact hb.run pins s1 σ H1 Q I1 (by simpa using q1)

/-! ### slices -/
theorem PO.imp {e : Option Expr} {t t' : TO} (p : PO X e t) (i : ∀ σ H Q, t' σ H Q → t σ H Q) : PO X e t' := ⟨fun pins s σ H Q I w => p.run pins s σ H Q I (i σ H Q w)⟩
theorem mo_none : PO X none (liftO T W fun Q _ _ h => Q none h) := PO.imp po_none fun σ H Q ⟨ρ, τ, h, Qa, Qx, R, S, q, k, _⟩ => k _ _ _ _ (.refl R) q
theorem mo_some {e : Expr} {w : EW} (ha : PE X e (liftE T W w)) : PO X (some e) (liftO T W fun Q Qx τ h => w (fun x h1 => match x with
      | .int i => Q (some i) h1
      | _ => False) Qx τ h) := PO.imp (po_some ha) fun σ H Q ⟨ρ, τ, h, Qa, Qx, R, S, q, k, hx⟩ => lift1 R S hx q fun ρ1 H1 h1 d v a rd q1 => by
    split at q1
    · next i => exact ⟨i, relI rd, k _ _ _ _ a q1⟩
    · exact q1.elim
theorem me_sl (hK : X.K = T.K) {a : Expr} {lo hi : Option Expr} {p2 pos : Pos} {wa : EW} {wl wh : OW} (ha : PE X a (liftE T W wa)) (hl : PO X lo (liftO T W wl)) (hh : PO X hi (liftO T W wh)) :
    PE X (.Subscript a (.Slice lo hi none p2) pos) (liftE T W fun Q Qx τ h => wa (fun x h1 => wl (fun l h2 => wh (fun u h3 => okS (slS h3 x l u) Q) Qx τ h2) Qx τ h1) Qx τ h) :=
  PE.imp (pe_slice (sl_slS hK) ha hl hh) fun σ H Q ⟨ρ, τ, h, Qa, Qx, R, S, q, k, hx⟩ => lift1 R S hx q fun ρ1 H1 h1 d v a rd q1 =>
    ⟨ρ1, τ, h1, _, Qx, a.rp, a.s S, q1, fun ρ2 H2 h2 l b q2 => ⟨ρ2, τ, h2, _, Qx, b.rp, b.s (a.s S), q2, fun ρ3 H3 h3 u c q3 => ⟨ρ3, h3, d, c.rp, c.d (b.d rd), okS_ans q3 fun z h4 q4 ρ4 H4 v dd r => k _ _ _ _ _ (((a.trans b).trans c).trans dd) r q4⟩, (hx.aft a).aft b⟩, hx.aft a⟩
theorem me_rev (hK : X.K = T.K) {e : Expr} {n : Nat} {p1 p2 p3 pos : Pos} {wa : EW} (ha : PE X e (liftE T W wa)) : PE X (.Subscript e (.Slice none none (some (.UnaryOp .USub (.Constant (.int 1) n p1) p2)) p3) pos) (liftE T W fun Q Qx τ h => wa (fun x h1 => match asL h1 x with
      | some ds => Q (.ref h1.length) (h1 ++ [.lst ds.reverse])
      | none => False) Qx τ h) :=
  PE.imp (pe_revL ha) fun σ H Q ⟨ρ, τ, h, Qa, Qx, R, S, q, k, hx⟩ => lift1 R S hx q fun ρ1 H1 h1 d v a rd q1 => by
    split at q1
    · next ds e =>
      obtain ⟨p, vs, rfl, hq, rs⟩ := a.rp.asL rd e
      exact ⟨p, vs, rfl, by rw [hK]; exact hq, fun p' hp => k _ _ _ _ _ (a.trans (.lst a.rp hp rs.reverse)) (ref_new a.rp) q1⟩
    · exact q1.elim
end
end Mi

set_option Elab.async false
set_option linter.all false
set_option maxRecDepth 100000
set_option maxHeartbeats 1000000
/-! Mi: calls; exceptions as values. -/
namespace PySem.W
open PySem PySem.Spec PyProof.Rows
section
variable {K : Frag} {x D : Addr} {prog : Program} {w : World} {A : Around} {E : Value → Shared → Prop} {s : Shared}
/-- an exception's class, asked of the object, whether or not it has a dict -/
theorem exc_class_any {ox : Obj} {od : Option Obj} {Q : Option Value → Shared → Prop} (C : L2.ExcC K D) (hf : findObj K D od "__class__" = some (.bind (.builtin "getset_descriptor.__get__") (.builtin "object.__class__"))) (X : K.In s.heap) (I : InstAt s.heap x ox D od)
    (h : Q (some (.ref D)) { s with toks := s.toks + 1 }) : wpAny (model prog w) A (getAttr? (.ref x) "__class__") Q E s := by
  obtain ⟨hga, hgt, hsub, _, _, _, _, hm⟩ := C
  obtain ⟨hp, g, d, t, os⟩ := s
  have T0 := I.type (M := model prog w)
  have isx : Looks (model prog w) hp (isInstance (.ref x) (.type "BaseException")) true := T0.andThen (looks_subIn X hsub)
  have no : (Value.builtin "BaseException.__getattribute__" == Value.builtin "object.__getattribute__") = false := by decide +kernel
  have no' : (onTheHeap (Value.ref D) && Value.builtin "BaseException.__getattribute__" == Value.builtin "object.__getattribute__") = false := by rw [no]; rfl
  unfold getAttr? getAttrBy? getAttrBy
  refine wpAny_bind (wpAny_mkText (wpAny_bind (wpAny_attempt (wpAny_holding (wpAny_bind (T0.at (wpAny_bind ((looks_findIn (M := model prog w) X hga).at ?_))))))))
  show wpAny _ _ (if (onTheHeap (Value.ref D) && Value.builtin "BaseException.__getattribute__" == Value.builtin "object.__getattribute__") = true then _ else _) _ _ _
  rw [no', if_neg Bool.false_ne_true]
  unfold getAttrByItsOwn hookBefore
  refine wpAny_bind ?_
  rw [if_pos (show onTheHeap (Value.ref D) = true from rfl)]
  refine (looks_findIn (M := model prog w) X hgt).at (wpAny_bind (wpAny_attempt (wpAny_holding ?_)))
  unfold callGetattribute
  rw [show (false && onTheHeap (Value.builtin "BaseException.__getattribute__")) = false from rfl, if_neg Bool.false_ne_true]
  unfold boundAndCalled
  rw [PySem.F.excAttr_ValueError.ga.bind (.ref x)]
  refine wpAny_bind (wpAny_pure ?_)
  show wpAny _ _ (call (.builtin "BaseException.__getattribute__") [.ref x, .str "__class__" t]) _ _ _
  refine wpAny_call (codeAny_call_builtin PySem.F.excAttr_ValueError.ga.plain PySem.F.entry_bexc_ga ?_)
  refine @check_slot (model prog w) _ _ ⟨hp, g, d, t + 1, os⟩ "BaseException.__getattribute__" "BaseException" "__getattribute__" (.ref x) [.str "__class__" t] [] _ (by decide +kernel) (by decide +kernel) isx (PySem.F.args_bexc_ga (.ref x) (.str "__class__" t)) ?_
  unfold Builtin.«object.__getattribute__»
  refine wpAny_bind (wpAny_of_eq (a := ((Value.ref x : Value), [Value.str "__class__" t])) (by first | rfl | (simp only [slotArgs]; rfl)) ?_)
  refine wpAny_bind (wpAny_pure (wpAny_bind (T0.at (wpAny_bind ((looks_find (M := model prog w) X I hf).at ?_)))))
  show wpAny _ _ (holding [Value.builtin "object.__class__"] (call (.builtin "getset_descriptor.__get__") [.builtin "object.__class__", .ref x, .ref D]) >>= ret) _ _ _
  refine wpAny_bind (wpAny_holding (wpAny_call (class_get (s := ⟨hp, g, d, t + 1, os⟩) (ox := ox) (od := od) X I hm (wpAny_pure ?_))))
  show wpAny _ _ (handedOut (.ref D)) _ _ _
  rw [handedOut_of (v := .ref D) rfl]
  first
    | exact wpAny_pure (wpAny_pure h)
    | exact wpAny_pure h
    | exact wpAny_pure (wpAny_bind (wpAny_pure (wpAny_pure h)))
theorem exc_kit {ox : Obj} {od : Option Obj} (C : L2.ExcC K D) (hf : findObj K D od "__class__" = some (.bind (.builtin "getset_descriptor.__get__") (.builtin "object.__class__"))) : KitX K (.ref x) (.ref D) (fun h => InstAt h x ox D od) where
  ty := fun _ _ _ I => I.type
  it := fun _ _ X _ => by
    obtain ⟨cd, hc, _⟩ := any_some C.hd
    unfold clsIn at hc
    split at hc
    · rename_i ho
      intro A' Q' E' s' k q
      unfold isType loadHead
      exact wpAny_bind (wpAny_loadPart (k _ _ (X _ _ ho)) (wpAny_pure q))
    · cases hc
  ne := fun h tp dd its n sl X htp => (handS_kitx_exc (x := x) (ox := ox) C.hg C.hk C.hs C.hd C.ha C.hn C.ht C.hm).ne h tp dd its n sl X htp
  ca := fun X I k => exc_class_any C hf X I k
end
end PySem.W
namespace Mi
open PySem PySem.Spec PyProof.Rows L2

/-- the written names -/
structure Gi where
  fns : List (Str × Nat)
  xcs : List (Str × Nat)
  cls : List (Str × Nat)
  cst : List (Str × D)
  free : List Str
/-- what a def promises, by what holds ahead of its call -/
def spF (T : Tab) (n : Nat) (c : List D → Hh → PQ → PX → Prop) : Sp := fun vs H Q E => vs.length = n ∧ ∃ ρ h ds Qa Qx, Rp T ρ h H ∧ RelDs T ρ H ds vs ∧ c ds h Qa Qx ∧ LQ T ρ H Qa Q ∧
  ∀ ρ' H' h' cc fs cls dx, Aft T ρ H ρ' h' H' → RelX T ρ' H' cc fs cls dx → Qx cc fs h' → E cls dx H'
/-- an own __init__ that stores its arguments, one in each field -/
def SpI (C : Addr) (xf : List Str) : Sp := fun vs H Q E => ∃ a args, vs = .ref a :: args ∧ args.length = xf.length ∧ H a = some (exo a C none) ∧
  ∀ H2 dx, H2 a = some (exo a C (some dx)) → H2 dx = some (exd dx (xf.zip args.reverse)) → H dx = none → dx ≠ a → (∀ b, b ≠ a → b ≠ dx → H2 b = H b) → Q .non H2
/-- how the class c makes its exceptions: without an own __init__; with one -/
inductive XMk (T : Tab) (Z : Zi) (P : Program) (w : World) (mg : Str → Option Value) (base : Heap) (c : Nat) : Prop where
  | plain {bmB : List Value} {B newId initId : String} (F : ExcBaseFacts B newId initId bmB) (q : PySem.W.excIn T.K (T.xa c) bmB newId = true) (m : ∀ ds fs, Z.mkf c ds = some fs → fs = [] ∧ ds.length ≤ 1000)
  | own {fI : Addr} {fd : FuncData} {ps : List Str} {k : Nat} (O : OexC T.K (T.xa c)) (iC : PySem.W.findIn T.K (.ref (T.xa c)) "__init__" = some (some (.ref fI))) (tI : PySem.W.typeIn T.K (.ref fI) = some (.type "function"))
      (F1 : FnOk P w T.K mg base (L2.CX P w) k fI fd ps (SpI (T.xa c) (T.xf c))) (hk : k ≤ 2) (hb : Binds T.K fd ps []) (m : ∀ ds fs, Z.mkf c ds = some fs → fs = ds.reverse ∧ ds.length = (T.xf c).length ∧ 0 < ds.length ∧ ds.length ≤ 1000)
structure Facts (G : Gi) (T : Tab) (Z : Zi) (C : Cal) (P : Program) (w : World) (mg : Str → Option Value) (base : Heap) (k : Nat) : Prop where
  fns : ∀ x f, (x, f) ∈ G.fns → ∃ fa fd ps, mg x = some (.ref fa) ∧ PySem.W.keepIn T.K (.ref fa) = true ∧ Binds T.K fd ps [] ∧ (∀ ds h Q Qx, C f ds h Q Qx → ds.length = ps.length) ∧ FnOk P w T.K mg base (L2.CX P w) k fa fd ps (spF T ps.length (C f))
  xcs : ∀ x c, (x, c) ∈ G.xcs → mg x = some (.ref (T.xa c)) ∧ PySem.W.keepIn T.K (.ref (T.xa c)) = true ∧ PySem.W.subIn T.K (.ref (T.xa c)) (.type "BaseException") = some true ∧ PySem.W.typeIn T.K (.ref (T.xa c)) = some (.type "type") ∧ XMk T Z P w mg base c
  fre : ∀ x, x ∈ G.free → mg x = none ∧ x ≠ "__name__"
  cst : ∀ x d, (x, d) ∈ G.cst → ∃ u v, mg x = some u ∧ RelV v u ∧ ∀ ρ H, RelD T ρ H d v
  cls : ∀ x c, (x, c) ∈ G.cls → ∃ cv v, (mg x = some cv ∨ (mg x = none ∧ bootBuiltins x = some cv ∧ x ≠ "__name__")) ∧ RelV v cv ∧ (∀ u, RelV v u → u = cv) ∧ PySem.W.kitOne T.K (.type "NoneType") cv = some false ∧
    ∀ e, e < Z.nx → PySem.W.kitOne T.K (.ref (T.xa e)) cv = some (Z.le e c) ∧ PySem.W.exmOne T.K (.ref (T.xa e)) cv = some (Z.le e c)
  own : ∀ e, e < Z.nx → ExcC T.K (T.xa e) ∧ ("__class__" : Str) ∉ T.xf e ∧ (T.xf e).Nodup ∧ ∀ f i, Z.fld e f = some i → (T.xf e)[i]? = some f ∧ PySem.W.findIn T.K (.ref (T.xa e)) f = some none
def noStar : Expr → Bool
  | .Starred .. => false
  | _ => true
theorem starEach_cons' {e : Expr} {es : List Expr} {env : Env} (h : noStar e = true) : starEach (e :: es) env = (false, eval e env) :: starEach es env := by
  cases e <;> first | rfl | cases h
theorem starEach_any {es : List Expr} {env : Env} {pos : Pos} (h : ∀ e ∈ es, noStar e = true) : (backTo pos (starEach es env)).any (·.1) = false := by
  induction es with
  | nil => rfl
  | cons e es ih =>
    rw [starEach_cons' (h e List.mem_cons_self)]
    show (false || (backTo pos (starEach es env)).any (·.1)) = false
    rw [ih fun x hx => h x (List.mem_cons_of_mem _ hx)]; rfl
theorem starEach_all {es : List Expr} {env : Env} {pos : Pos} (h : ∀ e ∈ es, noStar e = true) : (backTo pos (starEach es env)).all (fun x => !x.1) = true := by
  induction es with
  | nil => rfl
  | cons e es ih =>
    rw [starEach_cons' (h e List.mem_cons_self)]
    show (!false && (backTo pos (starEach es env)).all (fun x => !x.1)) = true
    rw [ih fun x hx => h x (List.mem_cons_of_mem _ hx)]; rfl
section
variable {X : Cx} {T : Tab} {W : WX} {ρ ρ' : List Addr} {H H' : Hp} {h h' : Hh} {σ : L2.St} {τ : Sl} {Qx : PX} {Z : Zi} {C : Cal} {G : Gi}

/-! ### a def's call -/
theorem me_call {k : Nat} {c : List D → Hh → PQ → PX → Prop} {fa : Addr} {fd : FuncData} {ps : List Str} {x : Str} {p pos : Pos} {es : List Expr} {ws : AW} (tk : Takes X W) (F : FnOk X.prog X.w X.K X.mg X.base (L2.CX X.prog X.w) k fa fd ps (spF T ps.length c)) (hr : Room k X.A) (hg : Gl X x) (hm : X.mg x = some (.ref fa)) (hk : PySem.W.keepIn X.K (.ref fa) = true)
    (hb : Binds X.K fd ps []) (hl : ∀ ds h Q Qx, c ds h Q Qx → ds.length = ps.length) (ha : PA X es (liftA T W ws)) (hdb : (x == ("__debug__" : Str)) = false) (hns : ∀ e ∈ es, noStar e = true) (hnil : es = [] → ∀ Q Qx τ h, ws Q Qx τ h → Q [] h) :
    PE X (.Call (.Name x p) es [] pos) (liftE T W fun Q Qx τ h => ws (fun ds h' => c ds h' Q Qx) Qx τ h) := by
  have core : ∀ σ H Q, liftE T W (fun Q Qx τ h => ws (fun ds h' => c ds h' Q Qx) Qx τ h) σ H Q → liftA T W ws σ H fun vs H1 => spF T ps.length c vs H1 Q (WE W σ) := fun σ H Q ⟨ρ, τ, h, Qa, Qx, R, S, q, k, hx⟩ =>
    ⟨ρ, τ, h, _, Qx, R, S, q, fun ρ1 H1 h1 ds vs a rs q1 => ⟨by rw [← rs.length]; exact hl _ _ _ _ q1, ρ1, h1, ds, Qa, Qx, a.rp, rs, q1, fun ρ2 H2 h2 d v b r q2 => k _ _ _ _ _ (a.trans b) r q2, fun ρ2 H2 h2 cc fs cls dx b r q2 => hx _ _ _ _ _ _ _ (a.trans b) r q2⟩, hx⟩
  cases es with
  | cons e es => exact PE.imp (pe_callS F hr hg hm hk hb (passAt tk) ha hdb (starEach_cons' (hns e List.mem_cons_self)) (starEach_any fun y hy => hns y (List.mem_cons_of_mem _ hy))) core
  | nil =>
    refine ⟨fun pins s σ H Q I hw => ?_⟩
    obtain ⟨ρ, τ, h, Qa, Qx, R, S, q, k, hx⟩ := hw
    have q1 := hnil rfl _ _ _ _ q
    refine wpAny_Call_Name_kw (ld_glob I hg hm ?_ hdb)
    refine PySem.W.callWith_K0 I.kIn hk (run_fnS F hr hb (passAt tk σ) I .nil ?_)
    exact ⟨hl _ _ _ _ q1, ρ, h, [], Qa, Qx, R, .nil, q1, k, hx⟩

/-! ### built-ins -/
theorem me_bi {f : SN} {id : String} {x : Str} {p pos : Pos} {e : Expr} {es : List Expr} {ws : AW} (hc : CallR X (.builtin id) (rN T f)) (hg : Gl X x) (hm : X.mg x = none) (hv : bootBuiltins x = some (.builtin id)) (hn : x ≠ "__name__") (hdb : (x == ("__debug__" : Str)) = false)
    (ha : PA X (e :: es) (liftA T W ws)) (hns : ∀ y ∈ e :: es, noStar y = true) : PE X (.Call (.Name x p) (e :: es) [] pos) (liftE T W fun Q Qx τ h => ws (fun ds h' => okS (f h' ds) Q) Qx τ h) :=
  PE.imp (pe_callB hc hg hm hv ha hn hdb (starEach_cons' (hns e List.mem_cons_self)) (starEach_any fun y hy => hns y (List.mem_cons_of_mem _ hy))) fun σ H Q ⟨ρ, τ, h, Qa, Qx, R, S, q, k, hx⟩ =>
    ⟨ρ, τ, h, _, Qx, R, S, q, fun ρ1 H1 h1 ds vs a rs q1 => ⟨ρ1, h1, ds, a.rp, rs, okS_ans q1 fun z h2 q2 ρ2 H2 v b r => k _ _ _ _ _ (a.trans b) r q2⟩, hx⟩
theorem me_ty {f : SN} {id : String} {x : Str} {p pos : Pos} {e : Expr} {es : List Expr} {ws : AW} (hc : CallR X (.type id) (rN T f)) (hg : Gl X x) (hm : X.mg x = none) (hv : bootBuiltins x = some (.type id)) (hn : x ≠ "__name__") (hdb : (x == ("__debug__" : Str)) = false)
    (ha : PA X (e :: es) (liftA T W ws)) (hns : ∀ y ∈ e :: es, noStar y = true) : PE X (.Call (.Name x p) (e :: es) [] pos) (liftE T W fun Q Qx τ h => ws (fun ds h' => okS (f h' ds) Q) Qx τ h) :=
  PE.imp (pe_callTy hc hg hm hv ha hn hdb (starEach_cons' (hns e List.mem_cons_self)) (starEach_any fun y hy => hns y (List.mem_cons_of_mem _ hy))) fun σ H Q ⟨ρ, τ, h, Qa, Qx, R, S, q, k, hx⟩ =>
    ⟨ρ, τ, h, _, Qx, R, S, q, fun ρ1 H1 h1 ds vs a rs q1 => ⟨ρ1, h1, ds, a.rp, rs, okS_ans q1 fun z h2 q2 ρ2 H2 v b r => k _ _ _ _ _ (a.trans b) r q2⟩, hx⟩

/-! ### isinstance -/
/-- its second argument, a class -/
def rIs (cv : Value) (r : V → Hp → VK → Prop) : List V → Hp → VK → Prop := fun xs H Q => ∃ x t, xs = [x, t] ∧ (∀ u, RelV t u → u = cv) ∧ r x H Q
theorem me_is {cv : Value} {v : V} {f : Hh → D → PQ → Prop} {y : Str} {p p2 pos : Pos} {a : Expr} {wa : EW}
    (hc : ∀ (pins : List (Addr × Obj)) (s : Shared) (σ : L2.St) (H : Hp) (ρ : List Addr) (h : Hh) (d : D) (x : V) (u : Value) (Qa : PQ) (Q : VK), Inv X pins σ H s → Rp T ρ h H → RelD T ρ H d x → RelV x u → f h d Qa → LQ T ρ H Qa Q → wpAny (model X.prog X.w) X.A (call (.builtin "isinstance") [u, cv]) (EP X pins σ Q) X.xe s)
    (hg : Gl X "isinstance") (hm : X.mg "isinstance" = none) (ha : PE X a (liftE T W wa)) (hy : PE X (.Name y p2) (tC v)) (hv : ∀ u, RelV v u → u = cv) (hns : noStar a = true) :
    PE X (.Call (.Name "isinstance" p) [a, .Name y p2] [] pos) (liftE T W fun Q Qx τ h => wa (fun x h1 => f h1 x Q) Qx τ h) := by
  have cr : CallR X (.builtin "isinstance") (rIs cv fun x H Q => ∃ ρ h d Qa, Rp T ρ h H ∧ RelD T ρ H d x ∧ f h d Qa ∧ LQ T ρ H Qa Q) := by
    intro pins s σ H xs us Q I r q
    obtain ⟨x, t, rfl, ht, ρ, h, d, Qa, R, rd, q, k⟩ := q
    obtain ⟨u, u', rfl, r1, r2⟩ := vals2 r
    obtain rfl := ht u' r2
    exact hc pins s σ H ρ h d x u Qa Q I R rd r1 q k
  refine PE.imp (pe_callB cr hg hm rfl (pa_cons ha (pa_cons hy pa_nil) (starEach_cons' hns)) (by decide) (by decide) (starEach_cons' hns) rfl) fun σ H Q ⟨ρ, τ, h, Qa, Qx, R, S, q, k, hx⟩ => ?_
  exact lift1 R S hx q fun ρ1 H1 h1 d x a rd q1 => ⟨x, v, rfl, hv, ρ1, h1, d, Qa, a.rp, rd, q1, fun ρ2 H2 h2 d v b r q2 => k _ _ _ _ _ (a.trans b) r q2⟩
theorem is_ty (t : Ty) : ∀ (pins : List (Addr × Obj)) (s : Shared) (σ : L2.St) (H : Hp) (ρ : List Addr) (h : Hh) (d : D) (x : V) (u : Value) (Qa : PQ) (Q : VK), Inv X pins σ H s → Rp T ρ h H → RelD T ρ H d x → RelV x u → okS (isiS t h d) Qa → LQ T ρ H Qa Q → wpAny (model X.prog X.w) X.A (call (.builtin "isinstance") [u, .type t.name]) (EP X pins σ Q) X.xe s :=
  fun pins s σ H ρ h d x u Qa Q I R rd ru q k => isi_run I R rd ru (okS_ans q fun z h2 q2 ρ2 H2 v b r => k _ _ _ _ _ b r q2)
/-- an exception's object, looked at -/
theorem exn_inst {pins : List (Addr × Obj)} {s : Shared} {C : Addr} {a : Addr} (I : Inv X pins σ H s) (ha : H a = some (ExH C none a)) : ∃ oe, PySem.W.InstAt s.heap a oe C none := by
  obtain ⟨⟨oe, vs, he, hz, hd⟩, _⟩ := I.hok a _ ha
  exact ⟨oe, he, hz.1, by unfold PySem.W.notCls; rw [hd], by rw [hz.2]; trivial⟩
theorem exf_inst {pins : List (Addr × Obj)} {s : Shared} {C : Addr} {a dx : Addr} {fs : List (Str × V)} (I : Inv X pins σ H s) (ha : H a = some (ExH C (some dx) a)) (hd : H dx = some (.xd fs)) :
    ∃ (oe od : Obj) (mA : Str → Option Value), PySem.W.InstAt s.heap a oe C (some od) ∧ (∀ n, PySem.W.lookIn n od = some (mA n)) ∧ ∀ f, RelO (fs.lookup f) (mA f) := by
  obtain ⟨⟨oe, vs, he, hz, hdd⟩, _⟩ := I.hok a _ ha
  obtain ⟨mA, hns, hr⟩ := (show ObjOk X.prog X.w H s.heap dx (.xd fs) from I.hok dx _ hd)
  obtain ⟨od, ho, hl⟩ := lookIn_ns hns
  exact ⟨oe, od, mA, ⟨he, hz.1, by unfold PySem.W.notCls; rw [hdd], by rw [hz.2]; exact ho⟩, hl, hr⟩
theorem any_cls {K : PySem.W.Frag} {D : Addr} (C : ExcC K D) : (PySem.W.clsIn K D).isSome = true := by
  obtain ⟨cd, hc, _⟩ := PySem.W.any_some C.hd
  rw [hc]; rfl
def isxP (Z : Zi) (c : Nat) : Hh → D → PQ → Prop := fun h x Q => match x with
      | .exn e _ => e < Z.nx ∧ Q (.bl (Z.le e c)) h
      | .non => Q (.bl false) h
      | _ => False
theorem is_exc (hK : X.K = T.K) {c : Nat} {cv : Value} (hN : PySem.W.kitOne T.K (.type "NoneType") cv = some false) (hE : ∀ e, e < Z.nx → PySem.W.kitOne T.K (.ref (T.xa e)) cv = some (Z.le e c)) (hO : ∀ e, e < Z.nx → ExcC T.K (T.xa e)) :
    ∀ (pins : List (Addr × Obj)) (s : Shared) (σ : L2.St) (H : Hp) (ρ : List Addr) (h : Hh) (d : D) (x : V) (u : Value) (Qa : PQ) (Q : VK), Inv X pins σ H s → Rp T ρ h H → RelD T ρ H d x → RelV x u → isxP Z c h d Qa → LQ T ρ H Qa Q → wpAny (model X.prog X.w) X.A (call (.builtin "isinstance") [u, cv]) (EP X pins σ Q) X.xe s := by
  intro pins s σ H ρ h d x u Qa Q I R rd ru q k
  unfold isxP at q
  split at q
  · next e fs =>
    obtain ⟨he, q⟩ := q
    have C := hO e he
    have fin : ∀ tk, EP X pins σ Q (.bool (Z.le e c)) { s with toks := tk } := fun tk => ⟨.bl _, H, I.tok tk, rfl, k _ _ _ _ _ (.refl R) (.bl _) q⟩
    cases rd with
    | exn ha =>
      obtain rfl : u = Value.ref _ := ru
      obtain ⟨oe, J⟩ := exn_inst I ha
      exact PySem.W.kia_one (PySem.W.exc_kit C (PySem.W.findObj_dataN (any_cls C) C.ha C.hn C.ht)) (by rw [← hK]; exact I.kIn) J (hE e he) (fun z => nomatch z) fin
    | exf ha hd _ _ =>
      obtain rfl : u = Value.ref _ := ru
      obtain ⟨oe, od, mA, J, _, _⟩ := exf_inst I ha hd
      exact PySem.W.kia_one (PySem.W.exc_kit C (PySem.W.findObj_data (any_cls C) C.ha C.hn C.ht)) (by rw [← hK]; exact I.kIn) J (hE e he) (fun z => nomatch z) fin
  · cases relN rd
    exact isinst_ok I ru (TyOf.non) (by rw [hK]; exact hN) fun tk => ⟨.bl false, H, I.tok tk, rfl, k _ _ _ _ _ (.refl R) (.bl _) q⟩
  · exact q.elim

/-! ### a field of an exception -/
def fldP (Z : Zi) (f : Str) : Hh → D → PQ → Prop := fun h x Q => match x with
      | .exn e fs => e < Z.nx ∧ (match Z.fld e f with
        | some i => (match fs[i]? with
          | some y => Q y h
          | none => False)
        | none => False)
      | _ => False
theorem zip_lookup : ∀ {xf : List Str} {vs : List V} {i : Nat} {f : Str} {v : V}, xf.Nodup → xf[i]? = some f → vs[i]? = some v → (xf.zip vs).lookup f = some v
  | [], _, _, _, _, _, h, _ => by simp at h
  | _ :: _, [], _, _, _, _, _, h => by simp at h
  | g :: xf, w :: vs, 0, f, v, _, h1, h2 => by
    simp at h1 h2
    subst h1; subst h2
    simp
  | g :: xf, w :: vs, i + 1, f, v, hn, h1, h2 => by
    have hne : (f == g) = false := by
      rw [beq_eq_false_iff_ne]
      intro e
      subst e
      have : f ∈ xf := List.mem_of_getElem? (by simpa using h1)
      exact (List.nodup_cons.mp hn).1 this
    rw [List.zip_cons_cons, List.lookup_cons, hne]
    exact zip_lookup (List.nodup_cons.mp hn).2 (by simpa using h1) (by simpa using h2)
theorem me_fld (hK : X.K = T.K) {f : Str} {a : Expr} {pos : Pos} {wa : EW} (hO : ∀ e, e < Z.nx → ExcC T.K (T.xa e) ∧ ("__class__" : Str) ∉ T.xf e ∧ (T.xf e).Nodup ∧ ∀ f i, Z.fld e f = some i → (T.xf e)[i]? = some f ∧ PySem.W.findIn T.K (.ref (T.xa e)) f = some none)
    (ha : PE X a (liftE T W wa)) (hb : attributeBase a f X.env (eval a X.env) = eval a X.env) : PE X (.Attribute a f pos) (liftE T W fun Q Qx τ h => wa (fun x h1 => fldP Z f h1 x Q) Qx τ h) := by
  refine ⟨fun pins s σ H Q I hw => ?_⟩
  obtain ⟨ρ, τ, h, Qa, Qx, R, S, q, k, hx⟩ := hw
  refine attr_of hb (thn (ha.run pins s σ H (fun v H' => ∃ ρ' h' d, Rp T ρ' h' H' ∧ RelD T ρ' H' d v ∧ Aft T ρ H ρ' h' H' ∧ fldP Z f h' d Qa) I (lift1 R S hx q fun ρ1 H1 h1 d v a rd q1 => ⟨ρ1, h1, d, a.rp, rd, a, q1⟩)) fun u s1 ⟨v, H1, I1, rv, ρ1, h1, d, R1, rd, a, q1⟩ => ?_)
  unfold fldP at q1
  split at q1
  · next e fs =>
    obtain ⟨he, q1⟩ := q1
    obtain ⟨Ce, _, nd, hf⟩ := hO e he
    split at q1
    · next i ei =>
      obtain ⟨ef, hno⟩ := hf f i ei
      split at q1
      · next y ey =>
        cases rd with
        | exn _ => simp at ey
        | @exf _ p dx _ vs hp hd hl rs =>
          obtain rfl : u = Value.ref p := rv
          obtain ⟨oe, od, mA, J, hlk, hr⟩ := exf_inst I1 hp hd
          obtain ⟨yv, e1, ry⟩ := rs.get ey
          have e2 := zip_lookup nd ef e1
          obtain ⟨u2, hu, ru⟩ := RelO.some_of (v := yv) (o := mA f) (by rw [← e2]; exact hr f)
          have kin : T.K.In s1.heap := by rw [← hK]; exact I1.kIn
          exact HandSPX.exc_get kin J Ce.hg Ce.hk Ce.hs (PySem.W.findObj_own Ce.hd hno rfl (by rw [hlk, hu])) (handed_of ru) ⟨yv, H1, I1.tok _, ru, k _ _ _ _ _ a ry q1⟩
      · exact q1.elim
    · exact q1.elim
  · exact q1.elim
end
end Mi

set_option Elab.async false
set_option linter.all false
set_option maxRecDepth 100000
set_option maxHeartbeats 1000000
/-! Mi: methods; exceptions made and raised; dict displays. -/
namespace Mi
open PySem PySem.Spec PyProof.Rows L2
section
variable {X : Cx} {T : Tab} {W : WX} {ρ ρ' : List Addr} {H H' : Hp} {h h' : Hh} {σ : L2.St} {τ : Sl} {Qx : PX} {Z : Zi} {C : Cal} {G : Gi}

/-! ### methods -/
theorem mt_some {m : Mt} {ty : Ty} (e : mtT m ty = true) : ∃ h xs z, mtS m ty h xs = some z := by
  cases m <;> cases ty <;> first | cases e | skip
  · exact ⟨[.lst []], [.ref 0, .non], _, rfl⟩
  · exact ⟨[.lst []], [.ref 0, .tup []], _, rfl⟩
  · exact ⟨[.lst [.non]], [.ref 0], _, rfl⟩
  · exact ⟨[.lst []], [.ref 0, .non], _, rfl⟩
  · exact ⟨[.lst [.int 0]], [.ref 0, .int 0], _, rfl⟩
  · exact ⟨[.dct false []], [.ref 0, .int 0], _, rfl⟩
  · exact ⟨[.dct false []], [.ref 0, .int 0, .non], _, rfl⟩
theorem rec_is (hK : X.K = T.K) {pins : List (Addr × Obj)} {s : Shared} (I : Inv X pins σ H s) (R : Rp T ρ h H) {d : D} {v : V} {u : Value} {ty : Ty} (rd : RelD T ρ H d v) (ru : RelV v u) (e : recT h d = some ty) :
    s.TypeIs u ty.name ∧ ∀ a, u = .ref a → ∃ ob, s.heap.get? a = some ob ∧ ob.dict = none := by
  cases d with
  | str l =>
    cases e
    obtain ⟨x, rfl, _⟩ := relSt rd
    exact tyV_is (T := "str") I ru rfl
  | ref i =>
    unfold recT at e
    cases rd with
    | @ref _ p hp =>
      obtain rfl : u = Value.ref p := ru
      dsimp only at e
      split at e
      · next ys ei =>
        cases e
        obtain ⟨q, vs, e1, _, hv, _⟩ := R.lst (.ref hp) ei
        cases e1
        exact tyV_is (x := .ref p) (T := "list") I rfl (.inl ⟨rfl, vs, .of hv⟩)
      · next ys ei =>
        cases e
        cases R.ok i p _ hp ei with
        | fro hv r => exact tyV_is (x := .ref p) (T := "list") I rfl (.inl ⟨rfl, _, .inl (.inr ⟨_, hv⟩)⟩)
      · next lk kvs ei =>
        cases e
        cases R.ok i p _ hp ei with
        | dct hv r => exact tyV_is (x := .ref p) (T := "dict") I rfl (.inr (.inr (.inl ⟨rfl, .inl ⟨_, hv⟩⟩)))
        | dcl hv r =>
          obtain ⟨_, ho, ex, _⟩ := I.frzK hv
          refine ⟨⟨_, ho, ex.1⟩, fun a e2 => ?_⟩
          cases e2
          exact ⟨_, ho, ex.2.1⟩
      · cases e
  | _ => cases e
theorem me_mt (hK : X.K = T.K) (hu : X.A.units + 200 < cLine) {m : Mt} {o : Expr} {es : List Expr} {apos cpos : Pos} {wo : EW} {ws : AW} (ho : PE X o (liftE T W wo)) (ha : PA X es (liftA T W ws)) (hbase : attributeBase o (Str.ofString m.name) X.env (eval o X.env) = eval o X.env)
    (hline : (apos.endLine == cpos.line) = true) (hlen : es.length < 30) (hns : ∀ e ∈ es, noStar e = true) (hnil : es = [] → ∀ Q Qx τ h, ws Q Qx τ h → Q [] h) :
    PE X (.Call (.Attribute o (Str.ofString m.name) apos) es [] cpos) (liftE T W fun Q Qx τ h => wo (fun x h1 => match recT h1 x with
      | some ty => mtT m ty = true ∧ ws (fun ds h2 => okS (mtS m ty h2 (x :: ds)) Q) Qx τ h1
      | none => False) Qx τ h) := by
  refine ⟨fun pins s σ H Q I hw => ?_⟩
  obtain ⟨ρ, τ, h, Qa, Qx, R, S, q, k, hx⟩ := hw
  have z := lift1 (K := fun v H' => ∃ ρ' h' d ty, Rp T ρ' h' H' ∧ RelD T ρ' H' d v ∧ recT h' d = some ty ∧ mtT m ty = true ∧ (es = [] → Ans T ρ' H' (mtS m ty h' [d]) Q) ∧
      liftA T W ws σ H' fun vs H2 => ∃ ρ2 h2 ds, Rp T ρ2 h2 H2 ∧ RelD T ρ2 H2 d v ∧ RelDs T ρ2 H2 ds vs ∧ Ans T ρ2 H2 (mtS m ty h2 (d :: ds)) Q) R S hx q fun ρ1 H1 h1 d v a rd q1 => by
    try dsimp only at q1
    split at q1
    · next ty ety =>
      obtain ⟨hm, q1⟩ := q1
      refine ⟨ρ1, h1, d, ty, a.rp, rd, ety, hm, fun en => ?_, ρ1, τ, h1, _, Qx, a.rp, a.s S, q1, fun ρ2 H2 h2 ds vs b rs q2 => ⟨ρ2, h2, ds, b.rp, b.d rd, rs, okS_ans q2 fun z h3 q3 ρ3 H3 v3 c r => k _ _ _ _ _ ((a.trans b).trans c) r q3⟩, hx.aft a⟩
      exact okS_ans (hnil en _ _ _ _ q1) fun z h3 q3 ρ3 H3 v3 c r => k _ _ _ _ _ (a.trans c) r q3
    · exact q1.elim
  have hK' := hK
  cases es with
  | nil =>
    refine wpAny_Call_method0_late hbase hline (thn (ho.run pins s σ H _ I z) fun u s1 ⟨v, H1, I1, ru, ρ1, h1, d, ty, R1, rd, ety, hm, hnl, q1⟩ => ?_)
    obtain ⟨t1, t2⟩ := rec_is hK I1 R1 rd ru ety
    obtain ⟨h0, xs0, z0, e0⟩ := mt_some hm
    obtain ⟨id, pa, slot, hty, run⟩ := (mt_ok (X := X) (T := T) hK hu m ty).resolve_left fun z => by rw [z] at e0; cases e0
    exact ⟨ty.name, id, pa, slot, hty, t1, t2, Calls.callWith_builtin rfl (PySem.evalArgs_none (run pins s1 σ H1 ρ1 h1 d [] v [] u [] Q I1 R1 rd .nil ru .nil (hnl rfl)))⟩
  | cons e es =>
    have hfew : ((backTo cpos (starEach (e :: es) X.env)).all (fun x => !x.1) && (backToKw cpos (keywordEach [] X.env)).all (fun x => x.1.isSome)
      && decide ((e :: es).length + ([] : List Keyword).length + (if ([] : List Keyword).isEmpty then 0 else 1) < 30)) = true := by
      rw [starEach_all hns]
      show (true && true && decide ((e :: es).length + 0 + 0 < 30)) = true
      simpa using hlen
    refine wpAny_Call_method_late hbase hfew hline rfl (thn (ho.run pins s σ H _ I z) fun u s1 ⟨v, H1, I1, ru, ρ1, h1, d, ty, R1, rd, ety, hm, _, q1⟩ => ?_)
    obtain ⟨t1, t2⟩ := rec_is hK I1 R1 rd ru ety
    obtain ⟨h0, xs0, z0, e0⟩ := mt_some hm
    obtain ⟨id, pa, slot, hty, run⟩ := (mt_ok (X := X) (T := T) hK hu m ty).resolve_left fun z => by rw [z] at e0; cases e0
    refine ⟨ty.name, id, pa, slot, hty, t1, t2, ?_⟩
    have hA := ha.run cpos pins s1 σ H1 _ I1 q1
    have hs := starEach_cons' (es := es) (env := X.env) (hns e List.mem_cons_self)
    rw [hs] at hA ⊢
    refine Calls.callWith_builtin (by show (false || (backTo cpos (starEach es X.env)).any (·.1)) = false; rw [starEach_any fun y hy => hns y (List.mem_cons_of_mem _ hy)] <;> rfl) (Calls.evalArgs_plain ?_)
    exact thn hA fun us s2 ⟨vs, H2, I2, r2, ρ2, h2, ds, R2, rd2, rs2, q2⟩ => run pins s2 σ H2 ρ2 h2 d ds v vs u us Q I2 R2 rd2 rs2 ru r2 q2

/-! ### exceptions made -/
def liftM (T : Tab) (W : WX) (c : Nat) (w : AW) : L2.St → Hp → XK → Prop := fun σ H Q => ∃ ρ τ h Qa Qx, Rp T ρ h H ∧ RelS T ρ H τ σ ∧ w Qa Qx τ h ∧ (∀ ρ' H' h' fs cls dx, Aft T ρ H ρ' h' H' → RelX T ρ' H' c fs cls dx → Qa fs h' → Q cls dx H') ∧ LX T ρ H Qx W σ
/-- class c's exception of these arguments -/
def wMk (Z : Zi) (c : Nat) (ws : AW) : AW := fun Q Qx τ h => ws (fun ds h1 => match Z.mkf c ds with
      | some fs => Q fs h1
      | none => False) Qx τ h
theorem mm_plain {bmB : List Value} {B newId initId : String} {c : Nat} {x : Str} {p pos : Pos} {es : List Expr} {ws : AW} (F : ExcBaseFacts B newId initId bmB) (q : PySem.W.excIn X.K (T.xa c) bmB newId = true) (hf : ∀ ds fs, Z.mkf c ds = some fs → fs = [] ∧ ds.length ≤ 1000)
    (gC : X.mg x = some (.ref (T.xa c))) (kC : PySem.W.keepIn X.K (.ref (T.xa c)) = true) (r : Raises X (.ref (T.xa c))) (hg : Gl X x) (ha : PA X es (liftA T W ws)) (hdb : (x == ("__debug__" : Str)) = false) (hns : ∀ e ∈ es, noStar e = true) (hnil : es = [] → ∀ Q Qx τ h, ws Q Qx τ h → Q [] h) :
    PMk X (.Call (.Name x p) es [] pos) (liftM T W c (wMk Z c ws)) := by
  intro pins s σ H Q I hw
  obtain ⟨ρ, τ, h, Qa, Qx, R, S, hq, k, hx⟩ := hw
  refine wpAny_Call_Name_kw (ld_glob I hg gC ?_ hdb)
  have call : ∀ (us : List Value) (H1 : Hp) (s1 : Shared) (ρ1 : List Addr) (h1 : Hh) (ds : List D) (vs : List V), Inv X pins σ H1 s1 → Aft T ρ H ρ1 h1 H1 → RelDs T ρ1 H1 ds vs → Vals vs us → (match Z.mkf c ds with
      | some fs => Qa fs h1
      | none => False) → wpAny (model X.prog X.w) X.A (call (.ref (T.xa c)) us) (MkP X pins σ Q) X.xe s1 := fun us H1 s1 ρ1 h1 ds vs I1 a rs rv q1 => by
    split at q1
    · next fs ef =>
      obtain ⟨rfl, hz⟩ := hf ds fs ef
      obtain ⟨bm, N, nm, qn, bs, hdct, sn, sub, ab, col, dd, k0, k1, k2, k3, k5, mN, hC, hN, hni, T'⟩ := exc_obj I1.kIn q
      refine wpAny_call_exc_subT F T' hC hN hni (fun h' e hm => ?_) (by rw [← rv.length, ← rs.length, sizeLine_eq]; omega)
      exact mk_of I1 hm r (k _ _ _ _ _ _ a ⟨rfl, .inl ⟨rfl, rfl⟩⟩ q1) (I1.hok.gone hm.new)
    · exact q1.elim
  cases es with
  | nil => exact PySem.W.callWith_K0 I.kIn kC (call [] H s ρ h [] [] I (.refl R) .nil .nil (hnil rfl _ _ _ _ hq))
  | cons e es =>
    refine PySem.W.callWith_K (h₀ := X.base) I.ok.mod.kin kC (thn (ha.run pos pins s σ H (fun vs H1 => ∃ ρ1 h1 ds, Aft T ρ H ρ1 h1 H1 ∧ RelDs T ρ1 H1 ds vs ∧ (match Z.mkf c ds with
      | some fs => Qa fs h1
      | none => False)) I ⟨ρ, τ, h, _, Qx, R, S, hq, fun ρ1 H1 h1 ds vs a rs q1 => ⟨ρ1, h1, ds, a, rs, q1⟩, hx⟩) fun us s1 ⟨vs, H1, I1, rv, ρ1, h1, ds, a, rs, q1⟩ => ⟨I1.kIn, call us H1 s1 ρ1 h1 ds vs I1 a rs rv q1⟩) (starEach_cons' (hns e List.mem_cons_self)) (starEach_any fun y hy => hns y (List.mem_cons_of_mem _ hy))
theorem PMk.imp {e : Expr} {t t' : L2.St → Hp → XK → Prop} (p : PMk X e t) (i : ∀ σ H Q, t' σ H Q → t σ H Q) : PMk X e t' := fun pins s σ H Q I w => p pins s σ H Q I (i σ H Q w)
theorem mm_own {c : Nat} {x : Str} {p pos : Pos} {es : List Expr} {ws : AW} {fI : Addr} {fd : FuncData} {ps : List Str} {k : Nat} (O : OexC X.K (T.xa c)) (iC : PySem.W.findIn X.K (.ref (T.xa c)) "__init__" = some (some (.ref fI))) (tI : PySem.W.typeIn X.K (.ref fI) = some (.type "function"))
    (F1 : FnOk X.prog X.w X.K X.mg X.base (L2.CX X.prog X.w) k fI fd ps (SpI (T.xa c) (T.xf c))) (hr : Room (k + 1) X.A) (hb : Binds X.K fd ps []) (hf : ∀ ds fs, Z.mkf c ds = some fs → fs = ds.reverse ∧ ds.length = (T.xf c).length ∧ 0 < ds.length ∧ ds.length ≤ 1000)
    (hg : Gl X x) (hm : X.mg x = some (.ref (T.xa c))) (ha : PA X es (liftA T W ws)) (hdb : (x == ("__debug__" : Str)) = false) (hns : ∀ e ∈ es, noStar e = true) (hnil : es = [] → ∀ Q Qx τ h, ws Q Qx τ h → Q [] h) :
    PMk X (.Call (.Name x p) es [] pos) (liftM T W c (wMk Z c ws)) := by
  cases es with
  | nil =>
    intro pins s σ H Q I hw
    obtain ⟨ρ, τ, h, Qa, Qx, R, S, hq, k, hx⟩ := hw
    have q1 := hnil rfl _ _ _ _ hq
    split at q1
    · next fs ef => exact absurd (hf _ _ ef).2.2.1 (by simp)
    · exact q1.elim
  | cons e es =>
    refine PMk.imp (pmk_oex (CX := L2.CX X.prog X.w) O iC tI F1 hr hb .nil passL hg hm ha hdb (starEach_cons' (hns e List.mem_cons_self)) (starEach_any fun y hy => hns y (List.mem_cons_of_mem _ hy))) fun σ H Q ⟨ρ, τ, h, Qa, Qx, R, S, q, kk, hx⟩ => ?_
    refine ⟨ρ, τ, h, _, Qx, R, S, q, fun ρ1 H1 h1 ds vs a rs q1 => ?_, hx⟩
    split at q1
    · next fs ef =>
      obtain ⟨rfl, hl, _, hz⟩ := hf ds fs ef
      refine ⟨by rw [← rs.length]; exact hz, fun p hp => ⟨p, vs, by rw [List.append_nil], by rw [← rs.length]; exact hl, upd_same, fun H2 dx e1 e2 e3 e4 e5 => ⟨rfl, dx, _, e1, e2, ?_, ?_⟩⟩⟩
      · rw [upd_ne e4] at e3; exact e3
      · have e3' : H1 dx = none := by rw [upd_ne e4] at e3; exact e3
        have eH : upd (del H2 p) dx (.xd ((T.xf c).zip vs.reverse)) = upd H1 dx (.xd ((T.xf c).zip vs.reverse)) := by
          funext b
          by_cases hb : b = dx
          · subst hb; rw [upd_same, upd_same]
          · rw [upd_ne hb, upd_ne hb]
            by_cases hp' : b = p
            · subst hp'; rw [del_same, hp]
            · rw [del_ne hp', e5 b hp' hb, upd_ne hp']
        rw [eH]
        have aa : Aft T ρ1 H1 ρ1 h1 (upd H1 dx (.xd ((T.xf c).zip vs.reverse))) := .tup a.rp e3'
        exact kk _ _ _ _ _ _ (a.trans aa) ⟨rfl, .inr ⟨dx, _, rfl, upd_same, by rw [List.length_reverse, ← rs.length]; exact hl.symm, (aa.ds rs).reverse⟩⟩ q1
    · exact q1.elim
/-- an exception as a value -/
theorem pe_exn {e : Expr} {t : L2.St → Hp → XK → Prop} (p : PMk X e t) : PE X e fun σ H Q => t σ H fun cls d H' => ∃ C, cls = .ref C ∧ ∀ a, H' a = none → Q (.ref a) (upd H' a (ExH C d a)) := by
  refine ⟨fun pins s σ H Q I hw => ?_⟩
  refine wpAny_mono (p pins s σ H _ I hw) (fun u s1 hu => ?_) fun _ _ x => x
  obtain ⟨a, oe, vs, sI, H', cls, d, rfl, J, kk, hne, ha, hz, hd, h1, na, os, ag, r, C, rfl, q⟩ := hu
  have new : ObjOk X.prog X.w (upd H' a (ExH C d a)) s1.heap a (ExH C d a) := ⟨⟨oe, vs, ha, hz, hd⟩, ⟨oe, ha⟩, fun _ _ ⟨o, v, q, r⟩ k => ⟨o, v, k o q, r⟩⟩
  have J1 := J.laidN (t' := s1.toks) (h' := s1.heap) kk hne na new
  exact ⟨.ref a, _, ⟨J1.ok, os.trans J1.os, ag, J1.base, J1.loc, J1.cell, J1.free, J1.freeC, J1.pin, J1.hok, J1.len⟩, rfl, q a na⟩
theorem me_mk {c : Nat} {e : Expr} {ws : AW} (p : PMk X e (liftM T W c (wMk Z c ws))) : PE X e (liftE T W fun Q Qx τ h => ws (fun ds h1 => match Z.mkf c ds with
      | some fs => Q (.exn c fs) h1
      | none => False) Qx τ h) :=
  PE.imp (pe_exn p) fun σ H Q ⟨ρ, τ, h, Qa, Qx, R, S, q, k, hx⟩ => ⟨ρ, τ, h, fun fs h1 => Qa (.exn c fs) h1, Qx, R, S, q, fun ρ1 H1 h1 fs cls dx a rx q1 => ⟨T.xa c, rx.1, fun b hb => by
    have aa : Aft T ρ1 H1 ρ1 h1 (upd H1 b (ExH (T.xa c) dx b)) := .tup a.rp hb
    refine k _ _ _ _ _ (a.trans aa) ?_ q1
    rcases rx.2 with ⟨rfl, rfl⟩ | ⟨d, vs, rfl, hd, hl, rs⟩
    · exact .exn upd_same
    · exact .exf upd_same (by rw [upd_ne (fun z => by rw [z, hb] at hd; cases hd)]; exact hd) hl (aa.ds rs)⟩, hx⟩

/-! ### dicts written -/
theorem putKd_len (l : List (Ky × D)) (k : Ky) (d : D) : (putKd l k d).length ≤ l.length + 1 := by
  have hr : ∀ l : List (Ky × D), (repKd l k d).length = l.length := fun l => by
    induction l with
    | nil => rfl
    | cons p l ih => obtain ⟨j, e⟩ := p; unfold repKd; rw [List.length_cons, ih, List.length_cons]
  unfold putKd
  split
  · rw [hr]; omega
  · rw [List.length_append]; simp
theorem KVs.merge : ∀ {l : List (Ky × D)} {m : List (Key × V)} {a : List (Ky × D)} {b : List (Key × V)}, KVs T ρ H l m → KVs T ρ H a b → KVs T ρ H (mergeKd a l) (mergeK b m)
  | _, _, _, _, .nil, r => r
  | _, _, _, _, .cons hk hd t, r => by
    have z := KVs.merge t (r.put hk hd)
    exact z
/-- pairs, evaluated from the left -/
inductive RelPs (T : Tab) (ρ : List Addr) (H : Hp) : List (D × D) → List (V × V) → Prop
  | nil : RelPs T ρ H [] []
  | cons {a b : D} {l : List (D × D)} {x y : V} {m : List (V × V)} (r : RelD T ρ H a x) (s : RelD T ρ H b y) (t : RelPs T ρ H l m) : RelPs T ρ H ((a, b) :: l) ((x, y) :: m)
theorem RelPs.keys : ∀ {l : List (D × D)} {m : List (V × V)} {kvs : List (Ky × D)}, RelPs T ρ H l m → kysOf l = some kvs → ∃ ks : List (Key × V), m = ks.map (fun kv => (kV kv.1, kv.2)) ∧ KVs T ρ H kvs ks
  | _, _, kvs, .nil, e => by cases e; exact ⟨[], rfl, .nil⟩
  | _, _, kvs, .cons (a := a) (b := b) (l := l) r s t, e => by
    unfold kysOf at e
    split at e
    · next k l' ek el =>
      cases e
      obtain ⟨q, kq, rfl⟩ := KyR.of r ek
      obtain ⟨ks, rfl, rk⟩ := RelPs.keys t el
      exact ⟨(q, _) :: ks, rfl, .cons kq s rk⟩
    · cases e
abbrev PW2 := (List (D × D) → Hh → Prop) → PX → Sl → Hh → Prop
def liftP (T : Tab) (W : WX) (w : PW2) : L2.St → Hp → (List (V × V) → Hp → Prop) → Prop := fun σ H Q => ∃ ρ τ h Qa Qx, Rp T ρ h H ∧ RelS T ρ H τ σ ∧ w Qa Qx τ h ∧ (∀ ρ' H' h' l m, Aft T ρ H ρ' h' H' → RelPs T ρ' H' l m → Qa l h' → Q m H') ∧ LX T ρ H Qx W σ
structure MPs (X : Cx) (T : Tab) (W : WX) (pos : Pos) (keys : List (Option Expr)) (values : List Expr) (w : PW2) : Prop where
  ps : ∃ trs, PPs X pos keys values trs ∧ ∀ σ H Q, liftP T W w σ H Q → tPairs trs σ H Q
  all : keys.all (·.isSome) = true
  len : keys.length = values.length
theorem mp_nil {pos : Pos} : MPs X T W pos [] [] fun Q _ _ h => Q [] h := ⟨⟨[], pps_nil, fun σ H Q ⟨ρ, τ, h, Qa, Qx, R, S, q, k, hx⟩ => k _ _ _ _ _ (.refl R) .nil q⟩, rfl, rfl⟩
theorem mp_cons {pos : Pos} {a b : Expr} {ks : List (Option Expr)} {vs : List Expr} {wa wb : EW} {w : PW2} (ha : PE X a (liftE T W wa)) (hb : PE X b (liftE T W wb)) (hr : MPs X T W pos ks vs w) :
    MPs X T W pos (some a :: ks) (b :: vs) fun Q Qx τ h => wa (fun x h1 => wb (fun y h2 => w (fun ds h3 => Q ((x, y) :: ds) h3) Qx τ h2) Qx τ h1) Qx τ h := by
  obtain ⟨⟨trs, p, i⟩, h1, h2⟩ := hr
  refine ⟨⟨_, pps_cons ha hb p, fun σ H Q ⟨ρ, τ, h, Qa, Qx, R, S, q, k, hx⟩ => ?_⟩, by simpa using h1, by simpa using h2⟩
  exact lift2 R S hx q fun ρ1 H1 h1 d e v u a rd re q1 => i _ _ _ ⟨ρ1, τ, h1, _, Qx, a.rp, a.s S, q1, fun ρ2 H2 h2 l m b rl q2 => k _ _ _ _ _ (a.trans b) (.cons (b.d rd) (b.d re) rl) q2, hx.aft a⟩
theorem me_dct {pos : Pos} {keys : List (Option Expr)} {values : List Expr} {w : PW2} (hp : MPs X T W pos keys values w) (hnil : keys = [] → ∀ Q Qx τ h, w Q Qx τ h → Q [] h) (hz : keys.length ≤ 15) :
    PE X (.Dict keys values pos) (liftE T W fun Q Qx τ h => w (fun ds h' => match kysOf ds with
      | some kvs => kvs.length ≤ 15 ∧ h'[h.length]? = some (.dct false []) ∧ Q (.ref h.length) (h'.set h.length (.dct false (mergeKd [] kvs)))
      | none => False) Qx τ (h ++ [.dct false []])) := by
  obtain ⟨⟨trs, p, i⟩, hall, hlen⟩ := hp
  have new : ∀ {ρ h H} {p : Addr}, Rp T ρ h H → H p = none → Aft T ρ H (ρ ++ [p]) (h ++ [.dct false []]) (upd H p (.dK [])) := fun {ρ h H p} R hn => ⟨⟨[p], rfl⟩, Ext.new hn, R.alloc hn (.dct upd_same .nil)⟩
  cases keys with
  | nil =>
    cases values with
    | cons _ _ => cases hlen
    | nil =>
      refine PE.imp pe_dnewK fun σ H Q ⟨ρ, τ, h, Qa, Qx, R, S, q, k, hx⟩ p hn => ?_
      have q1 := hnil rfl _ _ _ _ q
      dsimp only [kysOf] at q1
      obtain ⟨_, _, q1⟩ := q1
      have e : (h ++ [O.dct false []]).set h.length (.dct false (mergeKd [] [])) = h ++ [.dct false []] := by simp [mergeKd]
      rw [e] at q1
      exact k _ _ _ _ _ (new R hn) (ref_new R) q1
  | cons a keys =>
    refine PE.imp (pe_disp p hall hlen (by simp) hz) fun σ H Q ⟨ρ, τ, h, Qa, Qx, R, S, q, k, hx⟩ p hn => ?_
    have a := new R hn
    refine i _ _ _ ⟨_, τ, _, _, Qx, a.rp, a.s S, q, fun ρ2 H2 h2 l m b rl q2 => ?_, hx.aft a⟩
    try dsimp only at q2
    split at q2
    · next kvs ek =>
      obtain ⟨hz2, e2, q2⟩ := q2
      obtain ⟨ks, rfl, rk⟩ := rl.keys ek
      have ei : ρ2[h.length]? = some p := by
        have e0 : (ρ ++ [p])[h.length]? = some p := by rw [← R.len, List.getElem?_append_right (Nat.le_refl _), Nat.sub_self]; rfl
        exact pre_get b.pre e0
      have hv : H2 p = some (.dK []) := by
        cases b.rp.ok _ _ _ ei e2 with
        | dct hv r => cases r; exact hv
      refine ⟨hv, ks, rfl, by rw [← rk.length]; exact hz2, ?_⟩
      exact k _ _ _ _ _ ((a.trans b).trans (Aft.setK b.rp ei hv (KVs.merge rk .nil))) (.ref ei) q2
    · exact q2.elim
end
end Mi

set_option Elab.async false
set_option linter.all false
set_option maxRecDepth 100000
set_option maxHeartbeats 1000000
/-! Mi: targets; what is gone through; a dict that is locked meanwhile. -/
namespace Mi
open PySem PySem.Spec PyProof.Rows L2

/-! ### targets -/
/-- only these slots change -/
def Upd (s : List Nat) (σ σ' : L2.St) : Prop := σ'.length = σ.length ∧ ∀ i, i ∉ s → σ'[i]? = σ[i]?
theorem Upd.refl (s : List Nat) (σ : L2.St) : Upd s σ σ := ⟨rfl, fun _ _ => rfl⟩
theorem Upd.set {s : List Nat} {i : Nat} (h : i ∈ s) (σ : L2.St) (v : Option V) : Upd s σ (σ.set i v) := ⟨List.length_set, fun j hj => List.getElem?_set_ne (fun z => by subst z; exact hj h)⟩
theorem Upd.trans {s : List Nat} {σ σ1 σ2 : L2.St} (a : Upd s σ σ1) (b : Upd s σ1 σ2) : Upd s σ σ2 := ⟨b.1.trans a.1, fun i hi => (b.2 i hi).trans (a.2 i hi)⟩
theorem Upd.mono {s t : List Nat} {σ σ1 : L2.St} (a : Upd s σ σ1) (h : ∀ i ∈ s, i ∈ t) : Upd t σ σ1 := ⟨a.1, fun i hi => a.2 i fun z => hi (h i z)⟩
theorem wipe_at {σ : L2.St} : ∀ {vs : List Nat} {i : Nat}, (wipe σ vs)[i]? = if i ∈ vs ∧ i < σ.length then some none else σ[i]?
  | [], i => by simp [wipe]
  | v :: vs, i => by
    unfold wipe
    by_cases e : v = i
    · subst e
      by_cases hl : v < σ.length
      · rw [List.getElem?_set_self (by rw [wipe_length]; exact hl), if_pos ⟨List.mem_cons_self, hl⟩]
      · rw [if_neg (fun z => hl z.2), List.getElem?_eq_none (by rw [List.length_set, wipe_length]; omega), List.getElem?_eq_none (by omega)]
    · rw [List.getElem?_set_ne e, wipe_at]
      by_cases hm : i ∈ vs
      · simp [hm]
      · have : i ∉ v :: vs := fun z => by rcases List.mem_cons.mp z with z | z; exact e z.symm; exact hm z
        simp [hm, this]
theorem Upd.wipe {s vs : List Nat} {σ σ' : L2.St} (u : Upd s (L2.wipe σ vs) σ') (h : ∀ i ∈ s, i ∈ vs) : L2.wipe σ' vs = L2.wipe σ vs := by
  apply List.ext_getElem?
  intro i
  have hl : σ'.length = σ.length := by rw [u.1, wipe_length]
  rw [wipe_at, wipe_at, hl]
  by_cases hi : i ∈ vs ∧ i < σ.length
  · rw [if_pos hi, if_pos hi]
  · rw [if_neg hi, if_neg hi]
    by_cases hm : i ∈ vs
    · have : ¬ i < σ.length := fun z => hi ⟨hm, z⟩
      rw [List.getElem?_eq_none (by omega), List.getElem?_eq_none (by omega)]
    · rw [u.2 i (fun z => hm (h i z)), wipe_at, if_neg (fun z => hm z.1)]
theorem Upd.wipe2 {s vs : List Nat} {σ σ' : L2.St} (u : Upd s (L2.wipe σ vs) σ') (h : ∀ i ∈ s, i ∈ vs) : L2.wipe σ' vs = L2.wipe σ vs := u.wipe h
mutual
def G.slots : G → List Nat
  | .n i => [i]
  | .t gs => gs.slots
def Gs.slots : Gs → List Nat
  | .nil => []
  | .cons g gs => g.slots ++ gs.slots
end
section
variable {X : Cx} {T : Tab} {W : WX} {ρ ρ' : List Addr} {H H' : Hp} {h h' : Hh} {σ : L2.St} {τ : Sl} {Qx : PX} {Z : Zi} {C : Cal}
def liftG (T : Tab) (s : List Nat) (w : Hh → D → Option (List (Nat × D))) : TG := fun v σ H Q => ∃ ρ τ h d as, Rp T ρ h H ∧ RelS T ρ H τ σ ∧ RelD T ρ H d v ∧ w h d = some as ∧ ∀ σ', RelS T ρ H (setA τ as) σ' → Upd s σ σ' → Q σ' H
def liftGs (T : Tab) (s : List Nat) (w : Hh → List D → Option (List (Nat × D))) : TGs := fun vs σ H Q => ∃ ρ τ h ds as, Rp T ρ h H ∧ RelS T ρ H τ σ ∧ RelDs T ρ H ds vs ∧ w h ds = some as ∧ ∀ σ', RelS T ρ H (setA τ as) σ' → Upd s σ σ' → Q σ' H
theorem PG.imp {e : Expr} {t t' : TG} (p : PG X e t) (i : ∀ v σ H Q, t' v σ H Q → t v σ H Q) : PG X e t' := ⟨fun pins s σ H v u Q I r w => p.run pins s σ H v u Q I r (i v σ H Q w)⟩
theorem PGs.imp {e : List Expr} {t t' : TGs} (p : PGs X e t) (i : ∀ v σ H Q, t' v σ H Q → t v σ H Q) : PGs X e t' := ⟨fun pins s σ H v u Q I r w => p.run pins s σ H v u Q I r (i v σ H Q w)⟩
theorem PG.or {e : Expr} {t t' : TG} (p : PG X e t) (p' : PG X e t') : PG X e fun v σ H Q => t v σ H Q ∨ t' v σ H Q := ⟨fun pins s σ H v u Q I r w => w.elim (p.run pins s σ H v u Q I r) (p'.run pins s σ H v u Q I r)⟩
theorem mg_n {i : Nat} {x : Str} {pos : Pos} (hN : X.N.Nodup) (hi : X.N[i]? = some x) (hx : Loc X.env.scope x) (hf : X.fn x = true ∨ X.env.scope.names.lookup x = some .local) : PG X (.Name x pos) (liftG T (G.n i).slots fun h d => gAs h (.n i) d) :=
  PG.imp (pg_name hN hi hx hf) fun v σ H Q ⟨ρ, τ, h, d, as, R, S, rd, e, k⟩ => by
    unfold gAs at e
    cases e
    exact k _ (S.set i rd) (Upd.set (by simp [G.slots]) _ _)
theorem mgs_nil : PGs X [] (liftGs T Gs.nil.slots fun h ds => gAss h .nil ds) := PGs.imp pgs_nil fun vs σ H Q ⟨ρ, τ, h, ds, as, R, S, rd, e, k⟩ => by
  cases rd with
  | nil => unfold gAss at e; cases e; exact ⟨rfl, k _ S (.refl _ _)⟩
  | cons _ _ => unfold gAss at e; cases e
theorem assignEach_cons' {e : Expr} {es : List Expr} {env : Env} (h : noStar e = true) : assignEach (e :: es) env = (false, assign e env) :: assignEach es env := by
  cases e <;> first | rfl | cases h
theorem setA_app (τ : Sl) (a b : List (Nat × D)) : setA τ (a ++ b) = setA (setA τ a) b := by unfold setA; rw [List.foldl_append]
theorem mgs_cons {e : Expr} {es : List Expr} {g : G} {gs : Gs} (h1 : PG X e (liftG T g.slots fun h d => gAs h g d)) (h2 : PGs X es (liftGs T gs.slots fun h ds => gAss h gs ds)) (hs : noStar e = true) : PGs X (e :: es) (liftGs T (Gs.cons g gs).slots fun h ds => gAss h (.cons g gs) ds) :=
  PGs.imp (pgs_cons h1 h2 (by rw [assignEach_cons' hs]; rfl)) fun vs σ H Q ⟨ρ, τ, h, ds, as, R, S, rd, e, k⟩ => by
    cases rd with
    | nil => unfold gAss at e; cases e
    | @cons d ds v vs rd rds =>
      unfold gAss at e
      dsimp only at e
      split at e
      · next a b ea eb =>
        cases e
        refine ⟨v, vs, rfl, ρ, τ, h, d, a, R, S, rd, ea, fun σ1 S1 u1 => ⟨ρ, _, h, ds, b, R, S1, rds, eb, fun σ2 S2 u2 => k σ2 (by rw [setA_app]; exact S2) ?_⟩⟩
        exact (u1.mono fun i hi => by unfold Gs.slots; exact List.mem_append_left _ hi).trans (u2.mono fun i hi => by unfold Gs.slots; exact List.mem_append_right _ hi)
      · cases e
theorem assignEach_len {es : List Expr} {env : Env} : (assignEach es env).length = es.length := by
  induction es with
  | nil => rfl
  | cons e es ih => cases e <;> (unfold assignEach; rw [List.length_cons, List.length_cons, ih])
theorem assignEach_star {es : List Expr} {env : Env} (h : ∀ e ∈ es, noStar e = true) : (assignEach es env).findIdx? (·.1) = none := by
  induction es with
  | nil => rfl
  | cons e es ih =>
    rw [assignEach_cons' (h e List.mem_cons_self), List.findIdx?_cons]
    rw [ih fun x hx => h x (List.mem_cons_of_mem _ hx)]
    rfl
theorem gAss_len {h : Hh} : ∀ {gs : Gs} {ds : List D} {as : List (Nat × D)} {es : List Expr} {n : Nat}, gAss h gs ds = some as → (∀ ds', ∀ as', gAss h gs ds' = some as' → ds'.length = n) → ds.length = n := fun e k => k _ _ e
def Gs.len : Gs → Nat
  | .nil => 0
  | .cons _ gs => gs.len + 1
theorem gAss_length {h : Hh} : ∀ {gs : Gs} {ds : List D} {as : List (Nat × D)}, gAss h gs ds = some as → ds.length = gs.len
  | .nil, [], _, _ => rfl
  | .nil, _ :: _, _, e => by unfold gAss at e; cases e
  | .cons _ _, [], _, e => by unfold gAss at e; cases e
  | .cons g gs, d :: ds, as, e => by
    unfold gAss at e
    split at e
    · next a b ea eb => rw [List.length_cons, gAss_length eb]; rfl
    · cases e
theorem mg_t (hK : X.K = T.K) {es : List Expr} {n : Nat} {pos : Pos} {gs : Gs} (hc : X.calm = true) (hg : PGs X es (liftGs T gs.slots fun h ds => gAss h gs ds)) (hns : ∀ e ∈ es, noStar e = true) (hl : es.length = gs.len) : PG X (.Tuple es n pos) (liftG T (G.t gs).slots fun h d => gAs h (.t gs) d) := by
  have hn : (assignEach es X.env).length = gs.len := by rw [assignEach_len, hl]
  refine PG.imp (PG.or (pg_tup (k := n) (pos := pos) hc hg hn (assignEach_star hns)) (pg_lst (k := n) (pos := pos) hc hg hn (assignEach_star hns))) fun v σ H Q ⟨ρ, τ, h, d, as, R, S, rd, e, k⟩ => ?_
  unfold gAs at e
  dsimp only at e
  split at e
  · next h1 => cases h1
  · next gs' ds h1 =>
    cases h1
    obtain ⟨p, vs, rfl, hp, rs⟩ := relT rd
    refine .inl ⟨p, vs, rfl, .of hp, by rw [← rs.length]; exact gAss_length e, ρ, τ, h, ds, as, R, S, rs, e, fun σ' S' u => k σ' S' ?_⟩
    exact u.mono fun i hi => by unfold G.slots; exact hi
  · next gs' a h1 =>
    cases h1
    split at e
    · next ds ed =>
      obtain ⟨p, vs, rfl, hq, rs⟩ := R.asL rd ed
      refine .inr ⟨p, vs, rfl, by rw [hK]; exact hq, by rw [← rs.length]; exact gAss_length e, ρ, τ, h, ds, as, R, S, rs, e, fun σ' S' u => k σ' S' ?_⟩
      exact u.mono fun i hi => by unfold G.slots; exact hi
    · cases e
  · cases e

/-! ### what is gone through -/
structure ItR (T : Tab) (J : It) (ρ0 : List Addr) (H0 : Hp) (gd : Hh → Prop) (ds : List D) : Prop where
  go : ∀ i ρ h H, Aft T ρ0 H0 ρ h H → gd h → i < ds.length → J.go i H
  stop : ∀ ρ h H, Aft T ρ0 H0 ρ h H → gd h → J.stop ds.length H
  yld : ∀ i ρ h H x H', Aft T ρ0 H0 ρ h H → gd h → i < ds.length → J.yld i H x H' → ∃ d, ds[i]? = some d ∧ RelD T ρ H' d x ∧ Aft T ρ H ρ h H'
def liftI (T : Tab) (W : WX) (w : KI → PX → Sl → Hh → Prop) : TI := fun σ H R => ∃ ρ τ h k Qx, Rp T ρ h H ∧ RelS T ρ H τ σ ∧ w k Qx τ h ∧ (∀ ρ' H' h' gd ds J, Aft T ρ H ρ' h' H' → ItR T J ρ' H' gd ds → k gd ds h' → R J H') ∧ LX T ρ H Qx W σ
theorem PI.imp {tg e : Expr} {t t' : TI} (p : PI X tg e t) (i : ∀ σ H R, t' σ H R → t σ H R) : PI X tg e t' := ⟨fun pins s σ H R I w => p.run pins s σ H R I (i σ H R w)⟩
theorem itr_list {d : D} {a : Addr} {ds : List D} (rd : RelD T ρ H d (.ref a)) : ItR T (Itl T.K a) ρ H (fun h => asL h d = some ds) ds where
  go := fun i ρ' h' H' A g hi => by
    obtain ⟨p, vs, e, hq, rs⟩ := A.rp.asL (A.d rd) g
    cases e
    exact ⟨vs, vs[i]'(by rw [← rs.length]; exact hi), hq, List.getElem?_eq_getElem _⟩
  stop := fun ρ' h' H' A g => by
    obtain ⟨p, vs, e, hq, rs⟩ := A.rp.asL (A.d rd) g
    cases e
    exact ⟨vs, hq, by rw [rs.length]; exact Nat.le_refl _⟩
  yld := fun i ρ' h' H' x H'' A g hi y => by
    obtain ⟨p, vs, e, hq, rs⟩ := A.rp.asL (A.d rd) g
    cases e
    obtain ⟨rfl, y⟩ := y
    obtain ⟨v, hv, rv⟩ := rs.get (List.getElem?_eq_getElem hi)
    rw [y vs hq] at hv
    cases hv
    exact ⟨_, List.getElem?_eq_getElem hi, rv, .refl A.rp⟩
theorem itr_tup {ds : List D} {a : Addr} {vs : List V} (hp : H a = some (.tup vs)) (rs : RelDs T ρ H ds vs) : ItR T (Itt T.K a) ρ H (fun _ => True) ds where
  go := fun i ρ' h' H' A g hi => ⟨vs, vs[i]'(by rw [← rs.length]; exact hi), .of (A.ext _ _ (.inl ⟨_, rfl⟩) hp), List.getElem?_eq_getElem _⟩
  stop := fun ρ' h' H' A g => ⟨vs, .of (A.ext _ _ (.inl ⟨_, rfl⟩) hp), by rw [rs.length]; exact Nat.le_refl _⟩
  yld := fun i ρ' h' H' x H'' A g hi y => by
    obtain ⟨rfl, y⟩ := y
    obtain ⟨v, hv, rv⟩ := (A.ds rs).get (List.getElem?_eq_getElem hi)
    rw [y vs (.of (A.ext _ _ (.inl ⟨_, rfl⟩) hp))] at hv
    cases hv
    exact ⟨_, List.getElem?_eq_getElem hi, rv, .refl A.rp⟩
theorem itr_str {x : Str} {l : List Nat} (e : x.cps.toList = l) : ItR T (Its x) ρ H (fun _ => True) (l.map fun c => .str [c]) where
  go := fun i ρ' h' H' A g hi => by
    show i < x.cps.size
    rw [List.length_map, ← e] at hi
    simpa using hi
  stop := fun ρ' h' H' A g => by
    show x.cps.size ≤ _
    rw [List.length_map, ← e]
    simp
  yld := fun i ρ' h' H' v H'' A g hi y => by
    obtain ⟨rfl, c, hc, rfl⟩ := y
    refine ⟨.str [c], ?_, .str rfl, .refl A.rp⟩
    rw [List.getElem?_map, ← e, Array.getElem?_toList, hc]; rfl
theorem itr_rng {lo : Int} {n : Nat} : ItR T (Itr lo n) ρ H (fun _ => True) (rangeD lo n) where
  go := fun i ρ' h' H' A g hi => by
    show i < n
    unfold rangeD at hi
    simpa using hi
  stop := fun ρ' h' H' A g => by
    show n ≤ _
    unfold rangeD
    simp
  yld := fun i ρ' h' H' v H'' A g hi y => by
    obtain ⟨rfl, rfl⟩ := y
    unfold rangeD at hi ⊢
    have hi' : i < n := by simpa using hi
    exact ⟨.int (lo + i), by simp [hi'], .int _, .refl A.rp⟩
theorem itr_enum {d : D} {a : Addr} {ds : List D} (rd : RelD T ρ H d (.ref a)) : ItR T (Ite T.K a) ρ H (fun h => asL h d = some ds) (enumD ds) where
  go := fun i ρ' h' H' A g hi => by
    obtain ⟨p, vs, e, hq, rs⟩ := A.rp.asL (A.d rd) g
    cases e
    have hi' : i < ds.length := by unfold enumD at hi; simpa using hi
    exact ⟨vs, vs[i]'(by rw [← rs.length]; exact hi'), hq, List.getElem?_eq_getElem _⟩
  stop := fun ρ' h' H' A g => by
    obtain ⟨p, vs, e, hq, rs⟩ := A.rp.asL (A.d rd) g
    cases e
    refine ⟨vs, hq, ?_⟩
    unfold enumD
    simp [rs.length]
  yld := fun i ρ' h' H' x H'' A g hi y => by
    obtain ⟨p, vs, e, hq, rs⟩ := A.rp.asL (A.d rd) g
    cases e
    have hi' : i < ds.length := by unfold enumD at hi; simpa using hi
    obtain ⟨t, z, rfl, ht, rfl, y⟩ := y
    obtain ⟨v, hv, rv⟩ := rs.get (List.getElem?_eq_getElem hi')
    rw [y vs hq] at hv
    cases hv
    refine ⟨.tup [.int i, ds[i]], ?_, tup_new ht (.cons (.int _) (.cons rv .nil)), .tup A.rp ht⟩
    unfold enumD
    simp [List.getElem?_zipWith, hi']
theorem itr_zip {d e : D} {a b : Addr} {xs ys : List D} (rd : RelD T ρ H d (.ref a)) (re : RelD T ρ H e (.ref b)) : ItR T (Itz T.K a b) ρ H (fun h => asL h d = some xs ∧ asL h e = some ys) (zipD xs ys) where
  go := fun i ρ' h' H' A g hi => by
    obtain ⟨p, vs, e, hq, rs⟩ := A.rp.asL (A.d rd) g.1
    cases e
    obtain ⟨p, ws, e, hq2, rs2⟩ := A.rp.asL (A.d re) g.2
    cases e
    have hi' : i < xs.length ∧ i < ys.length := by unfold zipD at hi; simp at hi; omega
    exact ⟨vs, ws, vs[i]'(by rw [← rs.length]; exact hi'.1), ws[i]'(by rw [← rs2.length]; exact hi'.2), hq, hq2, List.getElem?_eq_getElem _, List.getElem?_eq_getElem _⟩
  stop := fun ρ' h' H' A g => by
    obtain ⟨p, vs, e, hq, rs⟩ := A.rp.asL (A.d rd) g.1
    cases e
    obtain ⟨p, ws, e, hq2, rs2⟩ := A.rp.asL (A.d re) g.2
    cases e
    refine ⟨vs, ws, hq, hq2, ?_⟩
    unfold zipD
    rw [List.length_zipWith, ← rs.length, ← rs2.length]
    omega
  yld := fun i ρ' h' H' x H'' A g hi y => by
    obtain ⟨p, vs, e, hq, rs⟩ := A.rp.asL (A.d rd) g.1
    cases e
    obtain ⟨p, ws, e, hq2, rs2⟩ := A.rp.asL (A.d re) g.2
    cases e
    have hi' : i < xs.length ∧ i < ys.length := by unfold zipD at hi; simp at hi; omega
    obtain ⟨t, z, z2, rfl, ht, rfl, y1, y2⟩ := y
    obtain ⟨v, hv, rv⟩ := rs.get (List.getElem?_eq_getElem hi'.1)
    obtain ⟨v2, hv2, rv2⟩ := rs2.get (List.getElem?_eq_getElem hi'.2)
    rw [y1 vs hq] at hv
    rw [y2 ws hq2] at hv2
    cases hv; cases hv2
    refine ⟨.tup [xs[i]'hi'.1, ys[i]'hi'.2], ?_, tup_new ht (.cons rv (.cons rv2 .nil)), .tup A.rp ht⟩
    unfold zipD
    simp [List.getElem?_zipWith, hi'.1, hi'.2]
/-- the pairs of a dict by their places -/
theorem KVs.at_ : ∀ {l : List (Ky × D)} {m : List (Key × V)} {i : Nat}, KVs T ρ H l m → i < l.length → ∃ k d q v, l[i]? = some (k, d) ∧ m[i]? = some (q, v) ∧ KyR k q ∧ RelD T ρ H d v
  | _, _, _, .nil, h => by simp at h
  | _, _, 0, .cons hk hd t, _ => ⟨_, _, _, _, rfl, rfl, hk, hd⟩
  | _, _, i + 1, .cons hk hd t, h => by
    obtain ⟨k, d, q, v, e1, e2, r⟩ := KVs.at_ (i := i) t (by simpa using h)
    exact ⟨k, d, q, v, by simpa using e1, by simpa using e2, r⟩
theorem itr_keys {a : Addr} {o : Obj} {m : List (Key × V)} {kvs : List (Ky × D)} {gd : Hh → Prop} (hp : H a = some (.frz o (.dK m))) (rk : KVs T ρ H kvs m) : ItR T (Itk a o m) ρ H gd (kvs.map fun p => p.1.d) where
  go := fun i ρ' h' H' A g hi => ⟨A.ext _ _ (.inr (.inr (.inr ⟨_, _, rfl⟩))) hp, by rw [← rk.length]; simpa using hi⟩
  stop := fun ρ' h' H' A g => ⟨A.ext _ _ (.inr (.inr (.inr ⟨_, _, rfl⟩))) hp, by rw [List.length_map, rk.length]; exact Nat.le_refl _⟩
  yld := fun i ρ' h' H' x H'' A g hi y => by
    obtain ⟨rfl, k, v, e, rfl⟩ := y
    obtain ⟨k', d, q, v', e1, e2, kr, _⟩ := (rk.mono A.pre A.ext).at_ (i := i) (by simpa using hi)
    rw [e] at e2
    cases e2
    exact ⟨k'.d, by rw [List.getElem?_map, e1]; rfl, kr.rel, .refl A.rp⟩
theorem itr_vals {a : Addr} {o : Obj} {m : List (Key × V)} {kvs : List (Ky × D)} {gd : Hh → Prop} (hp : H a = some (.frz o (.dK m))) (rk : KVs T ρ H kvs m) : ItR T (Itd a o m) ρ H gd (kvs.map fun p => p.2) where
  go := fun i ρ' h' H' A g hi => ⟨A.ext _ _ (.inr (.inr (.inr ⟨_, _, rfl⟩))) hp, by rw [← rk.length]; simpa using hi⟩
  stop := fun ρ' h' H' A g => ⟨A.ext _ _ (.inr (.inr (.inr ⟨_, _, rfl⟩))) hp, by rw [List.length_map, rk.length]; exact Nat.le_refl _⟩
  yld := fun i ρ' h' H' x H'' A g hi y => by
    obtain ⟨rfl, k, e⟩ := y
    obtain ⟨k', d, q, v', e1, e2, kr, rd⟩ := (rk.mono A.pre A.ext).at_ (i := i) (by simpa using hi)
    rw [e] at e2
    cases e2
    exact ⟨d, by rw [List.getElem?_map, e1]; rfl, rd, .refl A.rp⟩
theorem itr_items {a : Addr} {o : Obj} {m : List (Key × V)} {kvs : List (Ky × D)} {gd : Hh → Prop} (hp : H a = some (.frz o (.dK m))) (rk : KVs T ρ H kvs m) : ItR T (Iti a o m) ρ H gd (kvs.map fun p => .tup [p.1.d, p.2]) where
  go := fun i ρ' h' H' A g hi => ⟨A.ext _ _ (.inr (.inr (.inr ⟨_, _, rfl⟩))) hp, by rw [← rk.length]; simpa using hi⟩
  stop := fun ρ' h' H' A g => ⟨A.ext _ _ (.inr (.inr (.inr ⟨_, _, rfl⟩))) hp, by rw [List.length_map, rk.length]; exact Nat.le_refl _⟩
  yld := fun i ρ' h' H' x H'' A g hi y => by
    obtain ⟨t, k, v, e, rfl, ht, rfl⟩ := y
    obtain ⟨k', d, q, v', e1, e2, kr, rd⟩ := (rk.mono A.pre A.ext).at_ (i := i) (by simpa using hi)
    rw [e] at e2
    cases e2
    exact ⟨.tup [k'.d, d], by rw [List.getElem?_map, e1]; rfl, tup_new ht (.cons kr.rel (.cons rd .nil)), .tup A.rp ht⟩
end
end Mi

set_option Elab.async false
set_option linter.all false
set_option maxRecDepth 100000
set_option maxHeartbeats 1000000
/-! Mi: sources; locks. -/
namespace Mi
open PySem PySem.Spec PyProof.Rows L2
section
variable {X : Cx} {T : Tab} {W : WX} {ρ ρ' : List Addr} {H H' : Hp} {h h' : Hh} {σ : L2.St} {τ : Sl} {Qx : PX} {Z : Zi} {C : Cal}
abbrev IW := KI → PX → Sl → Hh → Prop
/-- the source of a value -/
theorem src_run (hK : X.K = T.K) {tg : Expr} {pins : List (Addr × Obj)} {s : Shared} (I : Inv X pins σ H s) (R : Rp T ρ h H) {d : D} {v : V} {u : Value} (rd : RelD T ρ H d v) (ru : RelV v u) {k : KI} {Rr : It → Hp → Prop} (q : srcD d k h)
    (kk : ∀ gd ds J, ItR T J ρ H gd ds → k gd ds h → Rr J H) : wpAny (model X.prog X.w) X.A (pyIter u) (PIE X pins σ tg Rr) X.xe s := by
  unfold srcD at q
  split at q
  · next ds =>
    obtain ⟨a, vs, rfl, hp, rs⟩ := relT rd
    obtain rfl : u = Value.ref a := ru
    obtain ⟨its, rv, p, hz⟩ := I.tuple (show SqT X.K H a vs from .of hp)
    refine wpAny_pyIter_tuple (show s.heap.IsTuple a its.toArray from p) ?_
    exact pi_one (tk := s.toks) I _ (turn_tuple a _) ⟨_, Heap.get?_push_size _ rfl, rfl, rfl⟩ (by rw [hK]; exact kk _ _ _ (itr_tup hp rs) q)
  · next l =>
    obtain ⟨x, rfl, e⟩ := relSt rd
    obtain ⟨t, rfl⟩ := ru
    have q' := kk _ _ _ (itr_str e) q
    cases ha : x.cps.all (· < 128)
    · exact wpAny_pyIter_wide ha (pi_one (tk := s.toks) I _ (turn_str _ x t "str_iterator" (.inr rfl)) ⟨_, Heap.get?_push_size _ rfl, rfl, rfl⟩ q')
    · exact wpAny_pyIter_ascii ha (pi_one (tk := s.toks) I _ (turn_str _ x t "str_ascii_iterator" (.inl rfl)) ⟨_, Heap.get?_push_size _ rfl, rfl, rfl⟩ q')
  · next i =>
    split at q
    · next ds e =>
      obtain ⟨a, vs, rfl, hq, rs⟩ := R.asL rd e
      obtain rfl : u = Value.ref a := ru
      obtain ⟨its, rv, p, hz⟩ := I.list (show SqL X.K H a vs by rw [hK]; exact hq)
      refine wpAny_pyIter_list p.isList ?_
      exact pi_one (tk := s.toks) I _ (turn_list a _) ⟨_, Heap.get?_push_size _ rfl, rfl, rfl⟩ (by rw [hK]; exact kk _ _ _ (itr_list rd) q)
    · exact q.elim
  · exact q.elim
theorem mi_of (hK : X.K = T.K) {tg e : Expr} {we : EW} (he : PE X e (liftE T W we)) : PI X tg e (liftI T W fun k Qx τ h => we (fun x h1 => srcD x k h1) Qx τ h) := by
  refine ⟨fun pins s σ H Rr I hw => ?_⟩
  obtain ⟨ρ, τ, h, k, Qx, R, S, q, kk, hx⟩ := hw
  refine thn (he.run pins s σ H (fun v H' => ∃ ρ' h' d, Rp T ρ' h' H' ∧ RelD T ρ' H' d v ∧ srcD d k h' ∧ Aft T ρ H ρ' h' H') I (lift1 R S hx q fun ρ1 H1 h1 d v a rd q1 => ⟨ρ1, h1, d, a.rp, rd, q1, a⟩)) fun u s1 ⟨v, H1, I1, ru, ρ1, h1, d, R1, rd, q1, a⟩ => ?_
  exact src_run hK I1 R1 rd ru q1 fun gd ds J it q2 => kk _ _ _ _ _ _ a it q2
theorem PI.or {tg e : Expr} {t t' : TI} (p : PI X tg e t) (p' : PI X tg e t') : PI X tg e fun σ H R => t σ H R ∨ t' σ H R := ⟨fun pins s σ H R I w => w.elim (p.run pins s σ H R I) (p'.run pins s σ H R I)⟩
/-- a locked dict's place -/
theorem dct_at {i a : Nat} {kvs : List (Ky × D)} (R : Rp T ρ h H) (S : RelS T ρ H τ σ) (e : dctAt τ h i = some (a, kvs)) : ∃ p o m, σ[i]? = some (some (.ref p)) ∧ τ[i]? = some (some (.ref a)) ∧ ρ[a]? = some p ∧ H p = some (.frz o (.dK m)) ∧ KVs T ρ H kvs m ∧ h[a]? = some (.dct true kvs) := by
  unfold dctAt at e
  split at e
  · next b eb =>
    split at e
    · next kvs' ek =>
      cases e
      obtain ⟨v, e1, rd⟩ := S.2 i _ eb
      cases rd with
      | @ref _ p hp =>
        cases R.ok _ p _ hp ek with
        | dcl hv rk => exact ⟨p, _, _, e1, eb, hp, hv, rk, ek⟩
    · cases e
  · cases e
theorem mi_nm (hK : X.K = T.K) {tg : Expr} {i : Nat} {x : Str} {pos : Pos} (hN : X.N[i]? = some x) (hv : Vis X.env.scope x) (hd : (x == ("__debug__" : Str)) = false) (hcd : (x == ("__classdict__" : Str)) = false) :
    PI X tg (.Name x pos) (liftI T W fun k _ τ h => match dctAt τ h i with
    | some (a, kvs) => k (fun h => h[a]? = some (.dct true kvs)) (kvs.map fun p => p.1.d) h
    | none => match τ[i]? with
      | some (some x) => srcD x k h
      | _ => False) := by
  have p0 : PE X (.Name x pos) (tVar i) := pe_var hN hv hd hcd
  have p1 : PE X (.Name x pos) (liftE T W fun Q _ τ h => match τ[i]? with
    | some (some d) => Q d h
    | _ => False) := me_v hN hv hd hcd
  refine PI.imp (PI.or (pi_keys p0) (mi_of (tg := tg) hK p1)) fun σ H Rr ⟨ρ, τ, h, k, Qx, R, S, q, kk, hx⟩ => ?_
  try dsimp only at q
  split at q
  · next a kvs e =>
    obtain ⟨p, o, m, e1, _, hp, hv, rk, _⟩ := dct_at R S e
    exact .inl ⟨.ref p, e1, p, o, rfl, .inl ⟨m, hv, kk _ _ _ _ _ _ (.refl R) (itr_keys hv rk) q⟩⟩
  · refine .inr ⟨ρ, τ, h, k, Qx, R, S, ?_, kk, hx⟩
    try dsimp only
    split at q
    · next d e => first | exact q | (rw [e]; exact q)
    · exact q.elim
theorem dctIn_of {i : Nat} {f : List (Ky × D) → List D} {k : KI} (q : dctIn τ h i f k) : ∃ a kvs, dctAt τ h i = some (a, kvs) ∧ k (fun h => h[a]? = some (.dct true kvs)) (f kvs) h := by
  unfold dctIn at q
  split at q
  · next a kvs e => exact ⟨a, kvs, e, q⟩
  · exact q.elim
theorem mi_kys {tg : Expr} {i : Nat} {x : Str} {p apos cpos : Pos} (hN : X.N[i]? = some x) (hv : Vis X.env.scope x) (hd : (x == ("__debug__" : Str)) = false) (hcd : (x == ("__classdict__" : Str)) = false) (hl : (apos.endLine == cpos.line) = true) :
    PI X tg (.Call (.Attribute (.Name x p) "keys" apos) [] [] cpos) (liftI T W fun k _ τ h => dctIn τ h i (fun kvs => kvs.map fun p => p.1.d) k) :=
  PI.imp (pi_keysM (pe_var hN hv hd hcd) rfl hl) fun σ H Rr ⟨ρ, τ, h, k, Qx, R, S, q, kk, hx⟩ => by
    obtain ⟨a, kvs, e, q⟩ := dctIn_of q
    obtain ⟨p, o, m, e1, _, hp, hv, rk, _⟩ := dct_at R S e
    exact ⟨.ref p, e1, p, o, m, rfl, hv, kk _ _ _ _ _ _ (.refl R) (itr_keys hv rk) q⟩
theorem mi_vls {tg : Expr} {i : Nat} {x : Str} {p apos cpos : Pos} (hN : X.N[i]? = some x) (hv : Vis X.env.scope x) (hd : (x == ("__debug__" : Str)) = false) (hcd : (x == ("__classdict__" : Str)) = false) (hl : (apos.endLine == cpos.line) = true) :
    PI X tg (.Call (.Attribute (.Name x p) "values" apos) [] [] cpos) (liftI T W fun k _ τ h => dctIn τ h i (fun kvs => kvs.map fun p => p.2) k) :=
  PI.imp (pi_values (pe_var hN hv hd hcd) rfl hl) fun σ H Rr ⟨ρ, τ, h, k, Qx, R, S, q, kk, hx⟩ => by
    obtain ⟨a, kvs, e, q⟩ := dctIn_of q
    obtain ⟨p, o, m, e1, _, hp, hv, rk, _⟩ := dct_at R S e
    exact ⟨.ref p, e1, p, o, m, rfl, hv, kk _ _ _ _ _ _ (.refl R) (itr_vals hv rk) q⟩
theorem mi_its {i : Nat} {x : Str} {p apos cpos tpos : Pos} {elts : List Expr} {kk0 : Nat} (hN : X.N[i]? = some x) (hv : Vis X.env.scope x) (hd : (x == ("__debug__" : Str)) = false) (hcd : (x == ("__classdict__" : Str)) = false) (hl : (apos.endLine == cpos.line) = true) :
    PI X (.Tuple elts kk0 tpos) (.Call (.Attribute (.Name x p) "items" apos) [] [] cpos) (liftI T W fun k _ τ h => dctIn τ h i (fun kvs => kvs.map fun p => .tup [p.1.d, p.2]) k) :=
  PI.imp (pi_items (pe_var hN hv hd hcd) rfl hl) fun σ H Rr ⟨ρ, τ, h, k, Qx, R, S, q, kk, hx⟩ => by
    obtain ⟨a, kvs, e, q⟩ := dctIn_of q
    obtain ⟨p, o, m, e1, _, hp, hv, rk, _⟩ := dct_at R S e
    exact ⟨.ref p, e1, p, o, m, rfl, hv, kk _ _ _ _ _ _ (.refl R) (itr_items hv rk) q⟩
theorem mi_r1 {tg : Expr} {a : Expr} {p pos : Pos} {wa : EW} (hg : Gl X "range") (hm : X.mg "range" = none) (ha : PE X a (liftE T W wa)) (hs : noStar a = true) :
    PI X tg (.Call (.Name "range" p) [a] [] pos) (liftI T W fun k Qx τ h => wa (fun x h1 => match x with
      | .int j => (-(2 ^ 62) ≤ j ∧ j < 2 ^ 62) ∧ k (fun _ => True) (rangeD 0 j.toNat) h1
      | _ => False) Qx τ h) :=
  PI.imp (pi_range1 hg hm (pa_cons ha pa_nil (starEach_cons' hs)) (starEach_cons' hs)) fun σ H Rr ⟨ρ, τ, h, k, Qx, R, S, q, kk, hx⟩ => lift1 R S hx q fun ρ1 H1 h1 d v a rd q1 => by
    split at q1
    · next j =>
      obtain ⟨⟨z1, z2⟩, q1⟩ := q1
      cases relI rd
      exact ⟨j, rfl, z1, z2, kk _ _ _ _ _ _ a itr_rng q1⟩
    · exact q1.elim
theorem mi_r2 {tg : Expr} {a b : Expr} {p pos : Pos} {wa wb : EW} (hg : Gl X "range") (hm : X.mg "range" = none) (ha : PE X a (liftE T W wa)) (hb : PE X b (liftE T W wb)) (hs : noStar a = true) (hs2 : noStar b = true) :
    PI X tg (.Call (.Name "range" p) [a, b] [] pos) (liftI T W fun k Qx τ h => wa (fun x h1 => wb (fun y h2 => match x, y with
      | .int i, .int j => (-(2 ^ 62) ≤ i ∧ i < 2 ^ 62 ∧ -(2 ^ 62) ≤ j ∧ j < 2 ^ 62) ∧ k (fun _ => True) (rangeD i (j - i).toNat) h2
      | _, _ => False) Qx τ h1) Qx τ h) :=
  PI.imp (pi_range2 hg hm (pa_cons ha (pa_cons hb pa_nil (starEach_cons' hs2)) (starEach_cons' hs)) (by rw [starEach_cons' hs, starEach_cons' hs2]; rfl) (starEach_cons' hs2)) fun σ H Rr ⟨ρ, τ, h, k, Qx, R, S, q, kk, hx⟩ => lift2 R S hx q fun ρ1 H1 h1 d e v u a rd re q1 => by
    split at q1
    · next i j =>
      obtain ⟨z, q1⟩ := q1
      cases relI rd
      cases relI re
      exact ⟨i, j, rfl, z, kk _ _ _ _ _ _ a itr_rng q1⟩
    · exact q1.elim
theorem mi_en (hK : X.K = T.K) {elts : List Expr} {kk0 : Nat} {tpos : Pos} {e : Expr} {p pos : Pos} {we : EW} (hg : Gl X "enumerate") (hm : X.mg "enumerate" = none) (he : PE X e (liftE T W we)) (hs : noStar e = true) :
    PI X (.Tuple elts kk0 tpos) (.Call (.Name "enumerate" p) [e] [] pos) (liftI T W fun k Qx τ h => we (fun x h1 => match asL h1 x with
      | some ds => k (fun h => asL h x = some ds) (enumD ds) h1
      | none => False) Qx τ h) :=
  PI.imp (pi_enum hg hm (pa_cons he pa_nil (starEach_cons' hs)) (starEach_cons' hs)) fun σ H Rr ⟨ρ, τ, h, k, Qx, R, S, q, kk, hx⟩ => lift1 R S hx q fun ρ1 H1 h1 d v a rd q1 => by
    split at q1
    · next ds e =>
      obtain ⟨p, vs, rfl, hq, rs⟩ := a.rp.asL rd e
      exact ⟨p, vs, rfl, by rw [hK]; exact hq, by rw [hK]; exact kk _ _ _ _ _ _ a (itr_enum rd) q1⟩
    · exact q1.elim
theorem mi_zp (hK : X.K = T.K) {elts : List Expr} {kk0 : Nat} {tpos : Pos} {a b : Expr} {p pos : Pos} {wa wb : EW} (hg : Gl X "zip") (hm : X.mg "zip" = none) (ha : PE X a (liftE T W wa)) (hb : PE X b (liftE T W wb)) (hs : noStar a = true) (hs2 : noStar b = true) :
    PI X (.Tuple elts kk0 tpos) (.Call (.Name "zip" p) [a, b] [] pos) (liftI T W fun k Qx τ h => wa (fun x h1 => wb (fun y h2 => match asL h2 x, asL h2 y with
      | some xs, some ys => k (fun h => asL h x = some xs ∧ asL h y = some ys) (zipD xs ys) h2
      | _, _ => False) Qx τ h1) Qx τ h) :=
  PI.imp (pi_zip hg hm (pa_cons ha (pa_cons hb pa_nil (starEach_cons' hs2)) (starEach_cons' hs)) (starEach_cons' hs) (by rw [starEach_cons' hs2]; rfl)) fun σ H Rr ⟨ρ, τ, h, k, Qx, R, S, q, kk, hx⟩ => lift2 R S hx q fun ρ1 H1 h1 d e v u a rd re q1 => by
    split at q1
    · next xs ys e1 e2 =>
      obtain ⟨p, vs, rfl, hq, rs⟩ := a.rp.asL rd e1
      obtain ⟨p2, ws, rfl, hq2, rs2⟩ := a.rp.asL re e2
      exact ⟨p, p2, vs, ws, rfl, by rw [hK]; exact hq, by rw [hK]; exact hq2, by rw [hK]; exact kk _ _ _ _ _ _ a (itr_zip rd re) q1⟩
    · exact q1.elim

/-! ### locks -/
theorem dct_free {i a : Nat} {kvs : List (Ky × D)} (R : Rp T ρ h H) (S : RelS T ρ H τ σ) (e : dctF τ h i = some (a, kvs)) : ∃ p m, ρ[a]? = some p ∧ H p = some (.dK m) ∧ KVs T ρ H kvs m := by
  unfold dctF at e
  split at e
  · next b eb =>
    split at e
    · next kvs' ek =>
      cases e
      obtain ⟨v, e1, rd⟩ := S.2 i _ eb
      cases rd with
      | @ref _ p hp =>
        cases R.ok _ p _ hp ek with
        | dct hv rk => exact ⟨p, _, hp, hv, rk⟩
    · cases e
  · cases e
theorem lk_free {r : Ir} {a : Nat} {kvs : List (Ky × D)} (R : Rp T ρ h H) (S : RelS T ρ H τ σ) (e : r.lk τ h = some (a, kvs)) : ∃ p m, ρ[a]? = some p ∧ H p = some (.dK m) ∧ KVs T ρ H kvs m := by
  cases r <;> first | exact dct_free R S e | cases e
/-- locked -/
theorem lock_rp {a : Nat} {p : Addr} {od : Obj} {m : List (Key × V)} {kvs : List (Ky × D)} (R : Rp T ρ h H) (hp : ρ[a]? = some p) (hv : H p = some (.dK m)) (rk : KVs T ρ H kvs m) : Aft T ρ H ρ (h.set a (.dct true kvs)) (upd H p (.frz od (.dK m))) :=
  Aft.set R hp hv trivial (.dcl upd_same (rk.mono (List.prefix_refl _) (Ext.chg hv trivial)))
/-- and unlocked -/
theorem unlock_aft {a : Nat} {p : Addr} {od : Obj} {m : List (Key × V)} {kvs : List (Ky × D)} (R : Rp T ρ h H) (hp : ρ[a]? = some p) (hv : H p = some (.dK m)) (rk : KVs T ρ H kvs m) (A : Aft T ρ (upd H p (.frz od (.dK m))) ρ' h' H') :
    H' p = some (.frz od (.dK m)) ∧ Aft T ρ H ρ' (h'.set a (.dct false kvs)) (upd H' p (.dK m)) := by
  have e0 : H' p = some (.frz od (.dK m)) := A.ext _ _ (.inr (.inr (.inr ⟨_, _, rfl⟩))) upd_same
  have x0 : Ext0 H' (upd H' p (.dK m)) := fun b o i e => by
    rw [upd_ne]
    · exact e
    · intro z; subst z; rw [e0] at e; cases e
      rcases i with ⟨_, z⟩ | ⟨_, _, z⟩ | ⟨_, z⟩ <;> cases z
  have x1 : Ext H (upd H' p (.dK m)) := fun b o i e => by
    have nb : b ≠ p := fun z => by
      subst z; rw [hv] at e; cases e
      rcases i with ⟨_, z⟩ | ⟨_, _, z⟩ | ⟨_, z⟩ | ⟨_, _, z⟩ <;> cases z
    rw [upd_ne nb]
    exact A.ext _ _ i (by rw [upd_ne nb]; exact e)
  refine ⟨e0, A.pre, x1, A.rp.store0 (pre_get A.pre hp) x0 (.dct upd_same (rk.mono A.pre x1))⟩
end
end Mi

set_option Elab.async false
set_option linter.all false
set_option maxRecDepth 100000
set_option maxHeartbeats 1000000
/-! Mi: comprehensions. -/
namespace Mi
open PySem PySem.Spec PyProof.Rows L2
section
variable {X : Cx} {T : Tab} {W : WX} {ρ ρ' : List Addr} {H H' : Hp} {h h' : Hh} {σ : L2.St} {τ : Sl} {Qx : PX} {Z : Zi} {C : Cal}
abbrev W0 : WX := fun _ _ _ _ => False
abbrev X0 : PX := fun _ _ _ => False
theorem lx0 : LX T ρ H X0 W0 σ := fun _ _ _ _ _ _ _ _ _ q => q
theorem RelS.wipe (S : RelS T ρ H τ σ) : ∀ vs : List Nat, RelS T ρ H (wipeA τ vs) (L2.wipe σ vs)
  | [] => S
  | v :: vs => (RelS.wipe S vs).clear v
theorem PTs.imp {ifs : List Expr} {t t' : TT} (p : PTs X ifs t) (i : ∀ σ H Q, t' σ H Q → t σ H Q) : PTs X ifs t' := ⟨fun pins s σ H Q I w => p.run pins s σ H Q I (i σ H Q w)⟩
theorem mts_nil : PTs X [] (liftB T W fun Q _ _ h => Q true h) := PTs.imp pts_nil fun σ H Q ⟨ρ, τ, h, Qa, Qx, R, S, q, k, hx⟩ => k _ _ _ _ (.refl R) q
theorem mts_one {c : Expr} {wc : EW} (p : PT X c (liftB T W (tst wc))) : PTs X [c] (liftB T W (tst wc)) := pts_one p
/-- one turn's target, test, item -/
theorem el_of {g : G} {d : D} {x : V} {wt : BW} {own : List Nat} {k1 : Sl → Hh → Prop} {sk : Hh → Prop} {K1 : L2.St → Hp → Prop} {K2 : Hp → Prop} (R : Rp T ρ h H) (S : RelS T ρ H τ σ) (rd : RelD T ρ H d x)
    (w : wG g d (fun τ1 h3 => wt (fun t h4 => if t = true then k1 τ1 h4 else sk h4) X0 τ1 h3) (wipeA τ own) h) (hs : ∀ i ∈ g.slots, i ∈ own)
    (kq : ∀ ρ2 H2 h2 τ2 σ2, Aft T ρ H ρ2 h2 H2 → RelS T ρ2 H2 τ2 σ2 → k1 τ2 h2 → K1 σ2 H2) (ks : ∀ ρ2 H2 h2, Aft T ρ H ρ2 h2 H2 → sk h2 → K2 H2) :
    liftG T g.slots (fun h d => gAs h g d) x (L2.wipe σ own) H fun σ2 H2 => L2.wipe σ2 own = L2.wipe σ own ∧ liftB T W0 wt σ2 H2 fun b H3 => if b = true then K1 σ2 H3 else K2 H3 := by
  unfold wG at w
  split at w
  · next as e =>
    refine ⟨ρ, wipeA τ own, h, d, as, R, S.wipe own, rd, e, fun σ' S' u => ⟨u.wipe hs, ρ, _, h, _, X0, R, S', w, fun ρ2 H2 h2 b a q => ?_, lx0⟩⟩
    cases b with
    | true => simp only [if_true] at q ⊢; exact kq _ _ _ _ _ a (a.s S') q
    | false => simp only [Bool.false_eq_true, if_false] at q ⊢; exact ks _ _ _ a q
  · exact w.elim
/-- [e for g in r if c] -/
def wLc (wi : IW) (g : G) (wt : BW) (we : EW) (own : List Nat) : EW := fun Q Qx τ h => wi (fun gd ds h1 => wAcc gd h1.length (fun d q sk h2 => wG g d (fun τ1 h3 => wt (fun t h4 => if t = true then we q X0 τ1 h4 else sk h4) X0 τ1 h3) (wipeA τ own) h2)
        (Q (.ref h1.length)) ds (h1 ++ [.lst []])) Qx τ h
theorem drop_cons {α : Type} {l : List α} {i : Nat} {d : α} (e : l[i]? = some d) : l.drop i = d :: l.drop (i + 1) := by
  obtain ⟨hi, rfl⟩ := List.getElem?_eq_some_iff.mp e
  exact List.drop_eq_getElem_cons hi
theorem place_new (R : Rp T ρ h H) {p : Addr} (pre : ρ ++ [p] <+: ρ') : ρ'[h.length]? = some p := by
  refine pre_get pre ?_
  rw [← R.len, List.getElem?_append_right (Nat.le_refl _), Nat.sub_self]; rfl
theorem lc_of {wi : IW} {g : G} {wt : BW} {we : EW} {own : List Nat} {Qa : PQ} {Q : VK} (R : Rp T ρ h H) (S : RelS T ρ H τ σ) (hx : LX T ρ H Qx W σ) (q : wLc wi g wt we own Qa Qx τ h) (k : LQ T ρ H Qa Q) (hs : ∀ i ∈ g.slots, i ∈ own) :
    tLc (liftI T W wi) (liftG T g.slots fun h d => gAs h g d) (liftB T W0 wt) (liftE T W0 we) own σ H Q := by
  refine ⟨ρ, τ, h, _, Qx, R, S, q, fun ρ1 H1 h1 gd ds J a1 it q1 p hp => ?_, hx⟩
  have a2 : Aft T ρ1 H1 (ρ1 ++ [p]) (h1 ++ [.lst []]) (upd H1 p (.lst [])) := .lst a1.rp hp .nil
  refine ⟨fun i m H2 => m = ds.length - i ∧ i ≤ ds.length ∧ ∃ ρ2 h2, Aft T (ρ1 ++ [p]) (upd H1 p (.lst [])) ρ2 h2 H2 ∧ wAcc gd h1.length (fun d q sk h2 => wG g d (fun τ1 h3 => wt (fun t h4 => if t = true then we q X0 τ1 h4 else sk h4) X0 τ1 h3) (wipeA τ own) h2) (Qa (.ref h1.length)) (ds.drop i) h2,
    ⟨_, rfl, Nat.zero_le _, _, _, .refl a2.rp, q1⟩, ?_⟩
  rintro i m H2 ⟨rfl, hi, ρ2, h2, a3, w⟩
  have a13 := a2.trans a3
  by_cases hlt : i < ds.length
  · obtain ⟨d0, ed0⟩ : ∃ d0, ds[i]? = some d0 := ⟨_, List.getElem?_eq_getElem hlt⟩
    rw [drop_cons ed0] at w
    obtain ⟨hg, w⟩ := w
    refine .inr ⟨it.go i _ _ _ a13 hg hlt, fun H3 => ∃ ρ3 h3, Aft T (ρ1 ++ [p]) (upd H1 p (.lst [])) ρ3 h3 H3 ∧ wAcc gd h1.length (fun d q sk h2 => wG g d (fun τ1 h3 => wt (fun t h4 => if t = true then we q X0 τ1 h4 else sk h4) X0 τ1 h3) (wipeA τ own) h2) (Qa (.ref h1.length)) (ds.drop (i + 1)) h3,
      fun H3 ⟨ρ3, h3, a4, w4⟩ => ⟨_, by omega, rfl, hlt, ρ3, h3, a4, w4⟩, fun x H3 y => ?_⟩
    obtain ⟨d, ed, rd, a4⟩ := it.yld i _ _ _ _ _ a13 hg hlt y
    rw [ed0] at ed
    cases ed
    have S4 : RelS T ρ2 H3 τ σ := a4.s (a3.s (a2.s (a1.s S)))
    refine el_of (K1 := fun σ2 H2 => liftE T W0 we σ2 H2 _) a4.rp S4 rd w hs (fun ρ5 H5 h5 τ5 σ5 a5 S5 q5 => lift1 a5.rp S5 lx0 q5 fun ρ6 H6 h6 y v a6 ry q6 => ?_) fun ρ5 H5 h5 a5 q5 => ⟨ρ5, h5, (a3.trans a4).trans a5, q5⟩
    have a36 := ((a3.trans a4).trans a5).trans a6
    have pl := place_new a1.rp a36.pre
    try dsimp only at q6
    split at q6
    · next acc ea =>
      obtain ⟨hz, q6⟩ := q6
      cases a36.rp.ok _ _ _ pl ea with
      | lst hv rs =>
        exact ⟨_, hv, by rw [← rs.length]; exact hz, ρ6, _, a36.trans (Aft.setL a36.rp pl hv (rs.append (.cons ry .nil))), q6⟩
    · exact q6.elim
  · have e : i = ds.length := by omega
    subst e
    rw [List.drop_length] at w
    obtain ⟨hg, w⟩ := w
    exact .inl ⟨it.stop _ _ _ a13 hg, k _ _ _ _ _ (a1.trans a13) (.ref (place_new a1.rp a3.pre)) w⟩
/-- {a: b for g in r if c} -/
def wDc (wi : IW) (g : G) (wt : BW) (wk we : EW) (own : List Nat) : EW := fun Q Qx τ h => wi (fun gd ds h1 => wAccD gd h1.length (fun d q sk h2 => wG g d (fun τ1 h3 => wt (fun t h4 => if t = true then wk (fun x h5 => we (q x) X0 τ1 h5) X0 τ1 h4 else sk h4) X0 τ1 h3) (wipeA τ own) h2)
        (Q (.ref h1.length)) ds (h1 ++ [.dct false []])) Qx τ h
theorem dc_of {wi : IW} {g : G} {wt : BW} {wk we : EW} {own : List Nat} {Qa : PQ} {Q : VK} (R : Rp T ρ h H) (S : RelS T ρ H τ σ) (hx : LX T ρ H Qx W σ) (q : wDc wi g wt wk we own Qa Qx τ h) (k : LQ T ρ H Qa Q) (hs : ∀ i ∈ g.slots, i ∈ own) :
    tDc (liftI T W wi) (liftG T g.slots fun h d => gAs h g d) (liftB T W0 wt) (liftE T W0 wk) (liftE T W0 we) own σ H Q := by
  refine ⟨ρ, τ, h, _, Qx, R, S, q, fun ρ1 H1 h1 gd ds J a1 it q1 p hp => ?_, hx⟩
  have a2 : Aft T ρ1 H1 (ρ1 ++ [p]) (h1 ++ [.dct false []]) (upd H1 p (.dK [])) := ⟨⟨[p], rfl⟩, Ext.new hp, a1.rp.alloc hp (.dct upd_same .nil)⟩
  refine ⟨fun i m H2 => m = ds.length - i ∧ i ≤ ds.length ∧ ∃ ρ2 h2, Aft T (ρ1 ++ [p]) (upd H1 p (.dK [])) ρ2 h2 H2 ∧ wAccD gd h1.length (fun d q sk h2 => wG g d (fun τ1 h3 => wt (fun t h4 => if t = true then wk (fun x h5 => we (q x) X0 τ1 h5) X0 τ1 h4 else sk h4) X0 τ1 h3) (wipeA τ own) h2) (Qa (.ref h1.length)) (ds.drop i) h2,
    ⟨_, rfl, Nat.zero_le _, _, _, .refl a2.rp, q1⟩, ?_⟩
  rintro i m H2 ⟨rfl, hi, ρ2, h2, a3, w⟩
  have a13 := a2.trans a3
  by_cases hlt : i < ds.length
  · obtain ⟨d0, ed0⟩ : ∃ d0, ds[i]? = some d0 := ⟨_, List.getElem?_eq_getElem hlt⟩
    rw [drop_cons ed0] at w
    obtain ⟨hg, w⟩ := w
    refine .inr ⟨it.go i _ _ _ a13 hg hlt, fun H3 => ∃ ρ3 h3, Aft T (ρ1 ++ [p]) (upd H1 p (.dK [])) ρ3 h3 H3 ∧ wAccD gd h1.length (fun d q sk h2 => wG g d (fun τ1 h3 => wt (fun t h4 => if t = true then wk (fun x h5 => we (q x) X0 τ1 h5) X0 τ1 h4 else sk h4) X0 τ1 h3) (wipeA τ own) h2) (Qa (.ref h1.length)) (ds.drop (i + 1)) h3,
      fun H3 ⟨ρ3, h3, a4, w4⟩ => ⟨_, by omega, rfl, hlt, ρ3, h3, a4, w4⟩, fun x H3 y => ?_⟩
    obtain ⟨d, ed, rd, a4⟩ := it.yld i _ _ _ _ _ a13 hg hlt y
    rw [ed0] at ed
    cases ed
    have S4 : RelS T ρ2 H3 τ σ := a4.s (a3.s (a2.s (a1.s S)))
    refine el_of (K1 := fun σ2 H2 => liftE T W0 wk σ2 H2 fun _ H3 => liftE T W0 we σ2 H3 _) a4.rp S4 rd w hs (fun ρ5 H5 h5 τ5 σ5 a5 S5 q5 => lift2 (Ra := fun x y h6 => _) a5.rp S5 lx0 q5 fun ρ6 H6 h6 y z v u a6 ry rz q6 => ?_) fun ρ5 H5 h5 a5 q5 => ⟨ρ5, h5, (a3.trans a4).trans a5, q5⟩
    have a36 := ((a3.trans a4).trans a5).trans a6
    have pl := place_new a1.rp a36.pre
    try dsimp only at q6
    split at q6
    · next acc kk ea ek =>
      obtain ⟨hz, q6⟩ := q6
      cases a36.rp.ok _ _ _ pl ea with
      | dct hv rk =>
        obtain ⟨kq, kr, rfl⟩ := KyR.of ry ek
        exact ⟨_, kq, rfl, hv, by rw [← rk.length]; exact hz, ρ6, _, a36.trans (Aft.setK a36.rp pl hv (rk.put kr rz)), q6⟩
    · exact q6.elim
  · have e : i = ds.length := by omega
    subst e
    rw [List.drop_length] at w
    obtain ⟨hg, w⟩ := w
    exact .inl ⟨it.stop _ _ _ a13 hg, k _ _ _ _ _ (a1.trans a13) (.ref (place_new a1.rp a3.pre)) w⟩
/-- [e for g in r if c for g1 in r1 if c1] -/
def wLc2 (wi : IW) (g : G) (wt : BW) (wi1 : IW) (g1 : G) (wt1 : BW) (we : EW) (own own1 : List Nat) : EW := fun Q Qx τ h => wi (fun gd ds h1 => wAcc gd h1.length (fun d _ sk h2 => wG g d (fun τ1 h3 => wt (fun t h4 => if t = true then
        wi1 (fun gd1 ds1 h5 => wAcc gd1 h1.length (fun d1 q1 sk1 h6 => wG g1 d1 (fun τ2 h7 => wt1 (fun t1 h8 => if t1 = true then we q1 X0 τ2 h8 else sk1 h8) X0 τ2 h7) (wipeA τ1 own1) h6) sk ds1 h5) X0 τ1 h4
        else sk h4) X0 τ1 h3) (wipeA τ own) h2) (Q (.ref h1.length)) ds (h1 ++ [.lst []])) Qx τ h
theorem lc2_of {wi wi1 : IW} {g g1 : G} {wt wt1 : BW} {we : EW} {own own1 : List Nat} {Qa : PQ} {Q : VK} (R : Rp T ρ h H) (S : RelS T ρ H τ σ) (hx : LX T ρ H Qx W σ) (q : wLc2 wi g wt wi1 g1 wt1 we own own1 Qa Qx τ h) (k : LQ T ρ H Qa Q) (hs : ∀ i ∈ g.slots, i ∈ own) (hs1 : ∀ i ∈ g1.slots, i ∈ own1) :
    tLc2 (liftI T W wi) (liftG T g.slots fun h d => gAs h g d) (liftB T W0 wt) (liftI T W0 wi1) (liftG T g1.slots fun h d => gAs h g1 d) (liftB T W0 wt1) (liftE T W0 we) own own1 σ H Q := by
  refine ⟨ρ, τ, h, _, Qx, R, S, q, fun ρ1 H1 h1 gd ds J a1 it q1 p hp => ?_, hx⟩
  have a2 : Aft T ρ1 H1 (ρ1 ++ [p]) (h1 ++ [.lst []]) (upd H1 p (.lst [])) := .lst a1.rp hp .nil
  generalize hk : (fun (d : D) (_ : PQ) (sk : Hh → Prop) (h2 : Hh) => wG g d (fun τ1 h3 => wt (fun t h4 => if t = true then
        wi1 (fun gd1 ds1 h5 => wAcc gd1 h1.length (fun d1 q1 sk1 h6 => wG g1 d1 (fun τ2 h7 => wt1 (fun t1 h8 => if t1 = true then we q1 X0 τ2 h8 else sk1 h8) X0 τ2 h7) (wipeA τ1 own1) h6) sk ds1 h5) X0 τ1 h4
        else sk h4) X0 τ1 h3) (wipeA τ own) h2) = body at q1
  refine ⟨fun i m H2 => m = ds.length - i ∧ i ≤ ds.length ∧ ∃ ρ2 h2, Aft T (ρ1 ++ [p]) (upd H1 p (.lst [])) ρ2 h2 H2 ∧ wAcc gd h1.length body (Qa (.ref h1.length)) (ds.drop i) h2, ⟨_, rfl, Nat.zero_le _, _, _, .refl a2.rp, q1⟩, ?_⟩
  rintro i m H2 ⟨rfl, hi, ρ2, h2, a3, w⟩
  have a13 := a2.trans a3
  by_cases hlt : i < ds.length
  · obtain ⟨d0, ed0⟩ : ∃ d0, ds[i]? = some d0 := ⟨_, List.getElem?_eq_getElem hlt⟩
    rw [drop_cons ed0] at w
    obtain ⟨hg, w⟩ := w
    refine .inr ⟨it.go i _ _ _ a13 hg hlt, fun H3 => ∃ ρ3 h3, Aft T (ρ1 ++ [p]) (upd H1 p (.lst [])) ρ3 h3 H3 ∧ wAcc gd h1.length body (Qa (.ref h1.length)) (ds.drop (i + 1)) h3, fun H3 ⟨ρ3, h3, a4, w4⟩ => ⟨_, by omega, rfl, hlt, ρ3, h3, a4, w4⟩, fun x H3 y => ?_⟩
    obtain ⟨d, ed, rd, a4⟩ := it.yld i _ _ _ _ _ a13 hg hlt y
    rw [ed0] at ed
    cases ed
    have S4 : RelS T ρ2 H3 τ σ := a4.s (a3.s (a2.s (a1.s S)))
    rw [← hk] at w
    refine el_of (K1 := fun σ2 H2 => liftI T W0 wi1 σ2 H2 _) a4.rp S4 rd w hs (fun ρ5 H5 h5 τ5 σ5 a5 S5 q5 => ⟨ρ5, τ5, h5, _, X0, a5.rp, S5, q5, fun ρ6 H6 h6 gd1 ds1 J1 a6 it1 q6 => ?_, lx0⟩) fun ρ5 H5 h5 a5 q5 => ⟨ρ5, h5, (a3.trans a4).trans a5, by rw [← hk]; exact q5⟩
    refine ⟨fun j n H7 => n = ds1.length - j ∧ j ≤ ds1.length ∧ ∃ ρ7 h7, Aft T ρ6 H6 ρ7 h7 H7 ∧ wAcc gd1 h1.length (fun d1 q1 sk1 h6 => wG g1 d1 (fun τ2 h7 => wt1 (fun t1 h8 => if t1 = true then we q1 X0 τ2 h8 else sk1 h8) X0 τ2 h7) (wipeA τ5 own1) h6) (wAcc gd h1.length body (Qa (.ref h1.length)) (ds.drop (i + 1))) (ds1.drop j) h7,
      ⟨_, rfl, Nat.zero_le _, _, _, .refl a6.rp, by rw [← hk]; exact q6⟩, ?_⟩
    rintro j n H7 ⟨rfl, hj, ρ7, h7, a7, w7⟩
    have a37 := (((a3.trans a4).trans a5).trans a6).trans a7
    by_cases hlt1 : j < ds1.length
    · obtain ⟨d1, ed1⟩ : ∃ d1, ds1[j]? = some d1 := ⟨_, List.getElem?_eq_getElem hlt1⟩
      rw [drop_cons ed1] at w7
      obtain ⟨hg1, w7⟩ := w7
      refine .inr ⟨it1.go j _ _ _ a7 hg1 hlt1, fun H8 => ∃ ρ8 h8, Aft T ρ6 H6 ρ8 h8 H8 ∧ wAcc gd1 h1.length (fun d1 q1 sk1 h6 => wG g1 d1 (fun τ2 h7 => wt1 (fun t1 h8 => if t1 = true then we q1 X0 τ2 h8 else sk1 h8) X0 τ2 h7) (wipeA τ5 own1) h6) (wAcc gd h1.length body (Qa (.ref h1.length)) (ds.drop (i + 1))) (ds1.drop (j + 1)) h8,
        fun H8 ⟨ρ8, h8, a8, w8⟩ => ⟨_, by omega, rfl, hlt1, ρ8, h8, a8, w8⟩, fun x H8 y => ?_⟩
      obtain ⟨d, ed, rd, a8⟩ := it1.yld j _ _ _ _ _ a7 hg1 hlt1 y
      rw [ed1] at ed
      cases ed
      have S8 : RelS T ρ7 H8 τ5 σ5 := a8.s (a7.s (a6.s S5))
      refine el_of (K1 := fun σ2 H2 => liftE T W0 we σ2 H2 _) a8.rp S8 rd w7 hs1 (fun ρ9 H9 h9 τ9 σ9 a9 S9 q9 => lift1 a9.rp S9 lx0 q9 fun ρA HA hA y v aA ry qA => ?_) fun ρ9 H9 h9 a9 q9 => ⟨ρ9, h9, (a7.trans a8).trans a9, q9⟩
      have a3A := ((a37.trans a8).trans a9).trans aA
      have pl := place_new a1.rp a3A.pre
      try dsimp only at qA
      split at qA
      · next acc ea =>
        obtain ⟨hz, qA⟩ := qA
        cases a3A.rp.ok _ _ _ pl ea with
        | lst hv rs =>
          exact ⟨_, hv, by rw [← rs.length]; exact hz, ρA, _, (((a7.trans a8).trans a9).trans aA).trans (Aft.setL a3A.rp pl hv (rs.append (.cons ry .nil))), qA⟩
      · exact qA.elim
    · have e : j = ds1.length := by omega
      subst e
      rw [List.drop_length] at w7
      obtain ⟨hg1, w7⟩ := w7
      exact .inl ⟨it1.stop _ _ _ a7 hg1, ρ7, h7, a37, w7⟩
  · have e : i = ds.length := by omega
    subst e
    rw [List.drop_length] at w
    obtain ⟨hg, w⟩ := w
    exact .inl ⟨it.stop _ _ _ a13 hg, k _ _ _ _ _ (a1.trans a13) (.ref (place_new a1.rp a3.pre)) w⟩
/-- locked meanwhile -/
def wLk (r : Ir) (w : EW) : EW := fun Q Qx τ h => match r.lk τ h with
    | none => w Q Qx τ h
    | some (a, kvs) => w (fun z h' => unlk a kvs (Q z) h') Qx τ (h.set a (.dct true kvs))
theorem lk_of {r : Ir} {w : EW} {t : TE} {Qa : PQ} {Q : VK} (i : ∀ σ H Q, liftE T W w σ H Q → t σ H Q) (R : Rp T ρ h H) (S : RelS T ρ H τ σ) (hx : LX T ρ H Qx W σ) (q : wLk r w Qa Qx τ h) (k : LQ T ρ H Qa Q) : t σ H Q ∨ tLockE t σ H Q := by
  unfold wLk at q
  split at q
  · exact .inl (i _ _ _ ⟨ρ, τ, h, Qa, Qx, R, S, q, k, hx⟩)
  · next a kvs e =>
    obtain ⟨p, m, hp, hv, rk⟩ := lk_free R S e
    refine .inr ⟨p, .dK m, hv, trivial, fun od => i _ _ _ ?_⟩
    have a1 := lock_rp (od := od) R hp hv rk
    refine ⟨ρ, τ, _, _, Qx, a1.rp, a1.s S, q, fun ρ2 H2 h2 z v a2 rz ⟨_, q2⟩ => ?_, hx.aft a1⟩
    obtain ⟨e0, a3⟩ := unlock_aft R hp hv rk a2
    exact ⟨e0, k _ _ _ _ _ a3 (rz.mono0 (List.prefix_refl _) fun b o i e => by
      rw [upd_ne]
      · exact e
      · intro z; subst z; rw [e0] at e; cases e
        rcases i with ⟨_, z⟩ | ⟨_, _, z⟩ | ⟨_, z⟩ <;> cases z) q2⟩
theorem PE.or {e : Expr} {t t' : TE} (p : PE X e t) (p' : PE X e t') : PE X e fun σ H Q => t σ H Q ∨ t' σ H Q := ⟨fun pins s σ H Q I w => w.elim (p.run pins s σ H Q I) (p'.run pins s σ H Q I)⟩
theorem me_lk {e : Expr} {r : Ir} {w : EW} {t : TE} (p : PE X e t) (i : ∀ σ H Q, liftE T W w σ H Q → t σ H Q) : PE X e (liftE T W (wLk r w)) :=
  PE.imp (PE.or p (pe_lock p)) fun σ H Q ⟨ρ, τ, h, Qa, Qx, R, S, q, k, hx⟩ => lk_of i R S hx q k
end
end Mi

set_option Elab.async false
set_option linter.all false
set_option maxRecDepth 100000
set_option maxHeartbeats 1000000
/-! Mi: statements. -/
namespace Mi
open PySem PySem.Spec PyProof.Rows L2
abbrev SW := En → Sl → Hh → Prop
structure EnR (T : Tab) (ρ : List Addr) (H : Hp) (Dn : En) (D : Ends) (W : WX) : Prop where
  nx : ∀ ρ' H' h' τ' σ', Aft T ρ H ρ' h' H' → RelS T ρ' H' τ' σ' → Dn.nx τ' h' → D.nx σ' H'
  rt : ∀ ρ' H' h' d v, Aft T ρ H ρ' h' H' → RelD T ρ' H' d v → Dn.rt d h' → D.rt v H'
  bk : ∀ ρ' H' h' τ' σ', Aft T ρ H ρ' h' H' → RelS T ρ' H' τ' σ' → Dn.bk τ' h' → D.bk σ' H'
  ct : ∀ ρ' H' h' τ' σ', Aft T ρ H ρ' h' H' → RelS T ρ' H' τ' σ' → Dn.ct τ' h' → D.ct σ' H'
  ex : ∀ ρ' H' h' τ' σ' c fs cls dx, Aft T ρ H ρ' h' H' → RelS T ρ' H' τ' σ' → RelX T ρ' H' c fs cls dx → Dn.ex c fs τ' h' → W cls dx σ' H'
def liftS (T : Tab) (W : WX) (w : SW) : TS := fun D σ H => ∃ ρ τ h Dn, Rp T ρ h H ∧ RelS T ρ H τ σ ∧ w Dn τ h ∧ EnR T ρ H Dn D W
section
variable {X : Cx} {T : Tab} {W : WX} {ρ ρ' : List Addr} {H H' : Hp} {h h' : Hh} {σ : L2.St} {τ : Sl} {Dn : En} {D : Ends} {Z : Zi} {C : Cal}
theorem EnR.aft (n : EnR T ρ H Dn D W) (a : Aft T ρ H ρ' h' H') : EnR T ρ' H' Dn D W where
  nx := fun _ _ _ _ _ b => n.nx _ _ _ _ _ (a.trans b)
  rt := fun _ _ _ _ _ b => n.rt _ _ _ _ _ (a.trans b)
  bk := fun _ _ _ _ _ b => n.bk _ _ _ _ _ (a.trans b)
  ct := fun _ _ _ _ _ b => n.ct _ _ _ _ _ (a.trans b)
  ex := fun _ _ _ _ _ _ _ _ _ b => n.ex _ _ _ _ _ _ _ _ _ (a.trans b)
theorem EnR.lx (n : EnR T ρ H Dn D W) (S : RelS T ρ H τ σ) : LX T ρ H (Dn.px τ) W σ := fun _ _ _ _ _ _ _ a r q => n.ex _ _ _ _ _ _ _ _ _ a (a.s S) r q
theorem ms_ex {e : Expr} {pos : Pos} {we : EW} (he : PE X e (liftE T W we)) (hs : swapsWith e none pos.line X.env = pure false) : PS X (.Expr e pos) (liftS T W fun D τ h => we (fun _ h1 => D.nx τ h1) (D.px τ) τ h) :=
  PS.imp (ps_expr he hs) fun D σ H ⟨ρ, τ, h, Dn, R, S, q, n⟩ => lift1 R S (n.lx S) q fun ρ1 H1 h1 d v a rd q1 => n.nx _ _ _ _ _ a (a.s S) q1
theorem wG_of {g : G} {d : Mi.D} {k : Sl → Hh → Prop} (q : wG g d k τ h) : ∃ as, gAs h g d = some as ∧ k (setA τ as) h := by
  unfold wG at q
  split at q
  · next as e => exact ⟨as, e, q⟩
  · exact q.elim
theorem ms_asg {tg e : Expr} {pos : Pos} {g : G} {we : EW} (he : PE X e (liftE T W we)) (hg : PG X tg (liftG T g.slots fun h d => gAs h g d)) (hs : swapsWithSole [tg] e pos.line X.env = pure false) (hw : swappedStores [tg] e X.env = pure none) (hns : noStar tg = true) :
    PS X (.Assign [tg] e pos) (liftS T W fun D τ h => we (fun d h1 => wG g d D.nx τ h1) (D.px τ) τ h) :=
  PS.imp (ps_asg he hg hs hw (by rw [assignEach_cons' hns]; rfl)) fun D σ H ⟨ρ, τ, h, Dn, R, S, q, n⟩ => lift1 R S (n.lx S) q fun ρ1 H1 h1 d v a rd q1 => by
    obtain ⟨as, e, q1⟩ := wG_of q1
    exact ⟨ρ1, τ, h1, d, as, a.rp, a.s S, rd, e, fun σ' S' u => n.nx _ _ _ _ _ a S' q1⟩
theorem PS.or {st : Stmt} {t t' : TS} (p : PS X st t) (p' : PS X st t') : PS X st fun D σ H => t D σ H ∨ t' D σ H := ⟨fun pins s σ H D I w => w.elim (p.run pins s σ H D I) (p'.run pins s σ H D I)⟩
/-- name = a comprehension -/
theorem ms_asgC {st : Stmt} {i : Nat} {r : Ir} {w : EW} {t : TE} (p : PS X st (tAsg t (gName i))) (j : ∀ σ H Q, liftE T W w σ H Q → t σ H Q) : PS X st (liftS T W fun D τ h => wLk r w (fun d h1 => wG (.n i) d D.nx τ h1) (D.px τ) τ h) :=
  PS.imp (PS.or p (ps_lock p)) fun D σ H ⟨ρ, τ, h, Dn, R, S, q, n⟩ => lk_of (Q := fun x H1 => gName i x σ H1 D.nx) j R S (n.lx S) q fun ρ1 H1 h1 d v a rd q1 => by
    obtain ⟨as, e, q1⟩ := wG_of q1
    unfold gAs at e
    cases e
    exact n.nx _ _ _ _ _ a ((a.s S).set i rd) q1
theorem ms_asgC2 {st : Stmt} {i : Nat} {w : EW} {t : TE} (p : PS X st (tAsg t (gName i))) (j : ∀ σ H Q, liftE T W w σ H Q → t σ H Q) : PS X st (liftS T W fun D τ h => w (fun d h1 => wG (.n i) d D.nx τ h1) (D.px τ) τ h) :=
  PS.imp p fun D σ H ⟨ρ, τ, h, Dn, R, S, q, n⟩ => j _ _ _ ⟨ρ, τ, h, _, _, R, S, q, fun ρ1 H1 h1 d v a rd q1 => by
    obtain ⟨as, e, q1⟩ := wG_of q1
    unfold gAs at e
    cases e
    exact n.nx _ _ _ _ _ a ((a.s S).set i rd) q1, n.lx S⟩
theorem PSet.or {t t' : TSet} (p : PSet X t) (p' : PSet X t') : PSet X fun o i v H Q => t o i v H Q ∨ t' o i v H Q := fun pins s σ H o i v ov iv u Q I ro ri rv w => w.elim (p pins s σ H o i v ov iv u Q I ro ri rv) (p' pins s σ H o i v ov iv u Q I ro ri rv)
/-- o[i] = d -/
def subP (k : Hh → Prop) (x y d : Mi.D) (h3 : Hh) : Prop := match x with
      | .ref a => (match h3[a]? with
        | some (.lst xs) => (match y with
          | .int i => (match ixN xs.length i with
            | some j => k (h3.set a (.lst (xs.set j d)))
            | none => False)
          | _ => False)
        | some (.dct false kvs) => (match y.ky with
          | some q => kvs.length < sizeLine ∧ k (h3.set a (.dct false (putKd kvs q d)))
          | none => False)
        | _ => False)
      | _ => False
theorem sub_of {x y d : Mi.D} {o i v : V} {k : Hh → Prop} {Q : Hp → Prop} (R : Rp T ρ h H) (rx : RelD T ρ H x o) (ry : RelD T ρ H y i) (rd : RelD T ρ H d v) (q : subP k x y d h) (kk : ∀ h' H', Aft T ρ H ρ h' H' → k h' → Q H') : rSetL o i v H Q ∨ rSetD o i v H Q := by
  unfold subP at q
  split at q
  · next a =>
    split at q
    · next xs ea =>
      split at q
      · next j =>
        split at q
        · next n en =>
          obtain ⟨p, vs, rfl, hp, hv, rs⟩ := R.lst rx ea
          cases relI ry
          exact .inl ⟨p, vs, j, n, rfl, rfl, hv, by rw [← rs.length]; exact en, kk _ _ (Aft.setL R hp hv (rs.set n rd)) q⟩
        · exact q.elim
      · exact q.elim
    · next kvs ea =>
      split at q
      · next ky ek =>
        obtain ⟨hz, q⟩ := q
        cases rx with
        | @ref _ p hp =>
          cases R.ok _ p _ hp ea with
          | dct hv rk =>
            obtain ⟨kq, kr, rfl⟩ := KyR.of ry ek
            exact .inr ⟨p, _, rfl, DPut.k hv (by rw [← rk.length]; exact hz), kk _ _ (Aft.setK R hp hv (rk.put kr rd)) q⟩
      · exact q.elim
    · exact q.elim
  · exact q.elim
theorem ms_sub (hu : X.A.units + 200 < cLine) {o i e : Expr} {pos p2 : Pos} {wo wi we : EW} (he : PE X e (liftE T W we)) (ho : PE X o (liftE T W wo)) (hi : PE X i (liftE T W wi)) (hs : swapsWithSole [.Subscript o i p2] e pos.line X.env = pure false) (hw : swappedStores [.Subscript o i p2] e X.env = pure none)
    (ha : ∀ v, assign (.Subscript o i p2) X.env v = (do let ov ← holding [v] (eval o X.env); let iv ← holding [v, ov] (eval i X.env); standAt p2; holding [v, ov, iv] (setItem ov iv v); release [v, ov, iv] [])) :
    PS X (.Assign [.Subscript o i p2] e pos) (liftS T W fun D τ h => we (fun d h1 => wo (fun x h2 => wi (fun y h3 => subP (fun h4 => D.nx τ h4) x y d h3) (D.px τ) τ h2) (D.px τ) τ h1) (D.px τ) τ h) := by
  have hu1 : X.A.units + 1 < cLine := by omega
  refine PS.imp (ps_asg he (pg_sub ho hi (PSet.or set_list (set_dict hu1)) ha) hs hw rfl) fun D σ H ⟨ρ, τ, h, Dn, R, S, q, n⟩ => ?_
  refine lift1 R S (n.lx S) q fun ρ1 H1 h1 d v a rd q1 => lift2 a.rp (a.s S) ((n.aft a).lx (a.s S)) q1 fun ρ2 H2 h2 x y ov iv b rx ry q2 => ?_
  exact sub_of b.rp rx ry (b.d rd) q2 fun h' H' c q3 => n.nx _ _ _ _ _ ((a.trans b).trans c) (c.s (b.s (a.s S))) q3
theorem ms_par {i j : Nat} {x y : Str} {a b : Expr} {px py pt : Pos} {kt k2 pt2} {pos : Pos} {wa wb : EW} (hc : X.calm = true) (hN : X.N.Nodup) (hi : X.N[i]? = some x) (hj : X.N[j]? = some y) (hij : i ≠ j)
    (hx : X.env.scope.names.lookup x = some .local) (hy : X.env.scope.names.lookup y = some .local) (ha : PE X a (liftE T W wa)) (hb : PE X b (liftE T W wb)) (hs : noStar a = true) (hs2 : noStar b = true)
    (hw : swappedStores [.Tuple [.Name x px, .Name y py] kt pt] (.Tuple [a, b] k2 pt2) X.env = pure (some [x, y])) :
    PS X (.Assign [.Tuple [.Name x px, .Name y py] kt pt] (.Tuple [a, b] k2 pt2) pos) (liftS T W fun D τ h => wa (fun x h1 => wb (fun y h2 => D.nx ((τ.set i (some x)).set j (some y)) h2) (D.px τ) τ h1) (D.px τ) τ h) :=
  PS.imp (ps_par hc hN hi hj hij hx hy (pa_cons ha (pa_cons hb pa_nil (starEach_cons' hs2)) (starEach_cons' hs)) hw rfl) fun D σ H ⟨ρ, τ, h, Dn, R, S, q, n⟩ => lift2 R S (n.lx S) q fun ρ1 H1 h1 d e v u a rd re q1 =>
    ⟨v, u, rfl, n.nx _ _ _ _ _ a (((a.s S).set i rd).set j re) q1⟩
/-- name op= e, ints -/
def augP (o : Op2) (x y : Mi.D) (k : Mi.D → Prop) : Prop := match o, x, y with
      | .add, .int a, .int b => k (.int (a + b))
      | .sub, .int a, .int b => k (.int (a - b))
      | _, _, _ => False
theorem ms_aug {i : Nat} {x : Str} {e : Expr} {op : Operator} {o : Op2} {p2 pos : Pos} {we : EW} {f : Int → Int → Int} (hN : X.N.Nodup) (hi : X.N[i]? = some x) (hx : Loc X.env.scope x) (he : PE X e (liftE T W we)) (ho : PIp X op (ipI f)) (hf : X.fn x = true ∨ X.env.scope.names.lookup x = some .local)
    (hp : ∀ x y k, augP o x y k → ∃ a b, x = .int a ∧ y = .int b ∧ k (.int (f a b))) :
    PS X (.AugAssign (.Name x p2) op e pos) (liftS T W fun D τ h => match τ[i]? with
    | some (some x) => we (fun y h1 => augP o x y fun z => D.nx (τ.set i (some z)) h1) (D.px τ) τ h
    | _ => False) :=
  PS.imp (ps_aug hN hi hx he ho hf) fun D σ H ⟨ρ, τ, h, Dn, R, S, q, n⟩ => by
    dsimp only at q
    split at q
    · next d ed =>
      obtain ⟨v, e1, rd⟩ := S.2 i d ed
      refine ⟨v, e1, lift1 R S (n.lx S) q fun ρ1 H1 h1 y u a ry q1 => ?_⟩
      obtain ⟨c, b, rfl, rfl, q2⟩ := hp _ _ _ q1
      cases relI rd
      cases relI ry
      exact ⟨c, b, rfl, rfl, n.nx _ _ _ _ _ a ((a.s S).set i (.int _)) q2⟩
    · exact q.elim
theorem ms_ret {e : Expr} {pos : Pos} {we : EW} (he : PE X e (liftE T W we)) : PS X (.Return (some e) pos) (liftS T W fun D τ h => we D.rt (D.px τ) τ h) :=
  PS.imp (ps_ret he) fun D σ H ⟨ρ, τ, h, Dn, R, S, q, n⟩ => ⟨ρ, τ, h, _, _, R, S, q, fun ρ1 H1 h1 d v a rd q1 => n.rt _ _ _ _ _ a rd q1, n.lx S⟩
theorem ms_retN {pos : Pos} : PS X (.Return none pos) (liftS T W fun D _ h => D.rt .non h) :=
  PS.imp ps_retN fun D σ H ⟨ρ, τ, h, Dn, R, S, q, n⟩ => n.rt _ _ _ _ _ (.refl R) .non q
theorem ms_if {c : Expr} {a b : List Stmt} {pos : Pos} {wc : EW} {wa wb : SW} (hc : PT X c (liftB T W (tst wc))) (ha : PSs X a (liftS T W wa)) (hb : PSs X b (liftS T W wb)) :
    PS X (.If c a b pos) (liftS T W fun D τ h => wc (fun x h1 => okB (truD h1 x) fun t => if t = true then wa D τ h1 else wb D τ h1) (D.px τ) τ h) :=
  PS.imp (ps_if hc ha hb) fun D σ H ⟨ρ, τ, h, Dn, R, S, q, n⟩ => liftT1 (w := tst wc) R S (n.lx S) q fun ρ1 H1 h1 t a q1 => by
    cases t with
    | true => simp only [if_true] at q1 ⊢; exact ⟨ρ1, τ, h1, Dn, a.rp, a.s S, q1, n.aft a⟩
    | false => simp only [Bool.false_eq_true, if_false] at q1 ⊢; exact ⟨ρ1, τ, h1, Dn, a.rp, a.s S, q1, n.aft a⟩
theorem ms_brk {pos : Pos} : PS X (.Break pos) (liftS T W fun D τ h => D.bk τ h) := PS.imp ps_break fun D σ H ⟨ρ, τ, h, Dn, R, S, q, n⟩ => n.bk _ _ _ _ _ (.refl R) S q
theorem ms_cnt {pos : Pos} : PS X (.Continue pos) (liftS T W fun D τ h => D.ct τ h) := PS.imp ps_continue fun D σ H ⟨ρ, τ, h, Dn, R, S, q, n⟩ => n.ct _ _ _ _ _ (.refl R) S q
theorem ms_pas {pos : Pos} : PS X (.Pass pos) (liftS T W fun D τ h => D.nx τ h) := PS.imp ps_pass fun D σ H ⟨ρ, τ, h, Dn, R, S, q, n⟩ => n.nx _ _ _ _ _ (.refl R) S q
theorem ms_doc {x j pos pos'} : PS X (.Expr (.Constant (.str x) j pos) pos') (liftS T W fun D τ h => D.nx τ h) := PS.imp ps_doc fun D σ H ⟨ρ, τ, h, Dn, R, S, q, n⟩ => n.nx _ _ _ _ _ (.refl R) S q
theorem mss_nil : PSs X [] (liftS T W fun D τ h => D.nx τ h) := PSs.imp pss_nil fun D σ H ⟨ρ, τ, h, Dn, R, S, q, n⟩ => n.nx _ _ _ _ _ (.refl R) S q
theorem mss_cons {st : Stmt} {ss : List Stmt} {w : SW} {ws : SW} (h1 : PS X st (liftS T W w)) (h2 : PSs X ss (liftS T W ws)) : PSs X (st :: ss) (liftS T W fun D τ h => w { D with nx := ws D } τ h) :=
  PSs.imp (pss_cons h1 h2) fun D σ H ⟨ρ, τ, h, Dn, R, S, q, n⟩ => ⟨ρ, τ, h, _, R, S, q, ⟨fun ρ1 H1 h1 τ1 σ1 a S1 q1 => ⟨ρ1, τ1, h1, Dn, a.rp, S1, q1, n.aft a⟩, n.rt, n.bk, n.ct, n.ex⟩⟩
theorem ms_while {c : Expr} {body : List Stmt} {pos : Pos} {wc : EW} {wb : SW} (hp : PassesOwn (model X.prog X.w) X.A X.env X.xe) (hc : PT X c (liftB T W (tst wc))) (hb : PSs X body (liftS T W wb)) :
    PS X (.While c body [] pos) (liftS T W fun D τ h => wWhl (fun k τ1 h1 => wc (fun x h2 => okB (truD h2 x) fun t => k t h2) (D.px τ1) τ1 h1) (fun k τ1 h1 => wb { D with nx := k, ct := k, bk := D.nx } τ1 h1) D.nx τ h) :=
  PS.imp (ps_while hp hc hb) fun D σ H ⟨ρ, τ, h, Dn, R, S, q, n⟩ => by
    obtain ⟨I, ⟨m, hm⟩, step⟩ := q
    refine ⟨fun m σ' H' => ∃ ρ' τ' h', Aft T ρ H ρ' h' H' ∧ RelS T ρ' H' τ' σ' ∧ I m τ' h', ⟨m, ρ, τ, h, .refl R, S, hm⟩, fun m σ' H' ⟨ρ1, τ1, h1, a, S1, i1⟩ => ?_⟩
    refine liftT1 (w := tst wc) a.rp S1 ((n.aft a).lx S1) (step m τ1 h1 i1) fun ρ2 H2 h2 t b q2 => ?_
    cases t with
    | true =>
      simp only [if_true] at q2 ⊢
      refine ⟨fun σ3 H3 => ∃ m', m' < m ∧ ∃ ρ' τ' h', Aft T ρ H ρ' h' H3 ∧ RelS T ρ' H3 τ' σ3 ∧ I m' τ' h', fun σ3 H3 x => x, ρ2, τ1, h2, _, b.rp, b.s S1, q2, ?_⟩
      have n2 := n.aft (a.trans b)
      exact ⟨fun ρ3 H3 h3 τ3 σ3 c S3 ⟨m', hm', i3⟩ => ⟨m', hm', ρ3, τ3, h3, (a.trans b).trans c, S3, i3⟩, n2.rt, n2.nx, fun ρ3 H3 h3 τ3 σ3 c S3 ⟨m', hm', i3⟩ => ⟨m', hm', ρ3, τ3, h3, (a.trans b).trans c, S3, i3⟩, n2.ex⟩
    | false =>
      simp only [Bool.false_eq_true, if_false] at q2 ⊢
      exact n.nx _ _ _ _ _ (a.trans b) (b.s S1) q2
/-- for -/
def wFor (wi : IW) (g : G) (wb : SW) : SW := fun D τ h => wi (fun gd ds h1 => wItems gd (fun d k τ1 h2 => wG g d (fun τ2 h3 => wb { D with nx := k, ct := k, bk := D.nx } τ2 h3) τ1 h2) D.nx ds τ h1) (D.px τ) τ h
theorem for_of {wi : IW} {g : G} {wb : SW} : ∀ D σ H, liftS T W (wFor wi g wb) D σ H → tFor (liftI T W wi) (liftG T g.slots fun h d => gAs h g d) (liftS T W wb) D σ H := fun D σ H ⟨ρ, τ, h, Dn, R, S, q, n⟩ => by
  refine ⟨ρ, τ, h, _, _, R, S, q, fun ρ1 H1 h1 gd ds J a1 it q1 => ?_, n.lx S⟩
  refine ⟨fun i m σ2 H2 => m = ds.length - i ∧ i ≤ ds.length ∧ ∃ ρ2 τ2 h2, Aft T ρ1 H1 ρ2 h2 H2 ∧ RelS T ρ2 H2 τ2 σ2 ∧ wItems gd (fun d k τ1 h2 => wG g d (fun τ2 h3 => wb { Dn with nx := k, ct := k, bk := Dn.nx } τ2 h3) τ1 h2) Dn.nx (ds.drop i) τ2 h2,
    ⟨_, rfl, Nat.zero_le _, ρ1, τ, h1, .refl a1.rp, a1.s S, q1⟩, ?_⟩
  rintro i m σ2 H2 ⟨rfl, hi, ρ2, τ2, h2, a2, S2, w⟩
  by_cases hlt : i < ds.length
  · obtain ⟨d0, ed0⟩ : ∃ d0, ds[i]? = some d0 := ⟨_, List.getElem?_eq_getElem hlt⟩
    rw [drop_cons ed0] at w
    obtain ⟨hg, w⟩ := w
    refine .inr ⟨it.go i _ _ _ a2 hg hlt, fun σ3 H3 => ∃ ρ3 τ3 h3, Aft T ρ1 H1 ρ3 h3 H3 ∧ RelS T ρ3 H3 τ3 σ3 ∧ wItems gd (fun d k τ1 h2 => wG g d (fun τ2 h3 => wb { Dn with nx := k, ct := k, bk := Dn.nx } τ2 h3) τ1 h2) Dn.nx (ds.drop (i + 1)) τ3 h3,
      fun σ3 H3 ⟨ρ3, τ3, h3, a3, S3, w3⟩ => ⟨_, by omega, rfl, hlt, ρ3, τ3, h3, a3, S3, w3⟩, fun x H3 y => ?_⟩
    obtain ⟨d, ed, rd, a3⟩ := it.yld i _ _ _ _ _ a2 hg hlt y
    rw [ed0] at ed
    cases ed
    obtain ⟨as, ea, w⟩ := wG_of w
    refine ⟨ρ2, τ2, h2, d0, as, a3.rp, a3.s S2, rd, ea, fun σ4 S4 u => ⟨ρ2, _, h2, _, a3.rp, S4, w, ?_⟩⟩
    have a123 := a2.trans a3
    have n2 := n.aft (a1.trans a123)
    exact ⟨fun ρ5 H5 h5 τ5 σ5 c S5 q5 => ⟨ρ5, τ5, h5, a123.trans c, S5, q5⟩, n2.rt, n2.nx, fun ρ5 H5 h5 τ5 σ5 c S5 q5 => ⟨ρ5, τ5, h5, a123.trans c, S5, q5⟩, n2.ex⟩
  · have e : i = ds.length := by omega
    subst e
    rw [List.drop_length] at w
    obtain ⟨hg, w⟩ := w
    exact .inl ⟨it.stop _ _ _ a2 hg, n.nx _ _ _ _ _ (a1.trans a2) S2 w⟩
def wLkS (r : Ir) (w : SW) : SW := fun D τ h => match r.lk τ h with
    | none => w D τ h
    | some (a, kvs) => w (D.unlk a kvs) τ (h.set a (.dct true kvs))
theorem ms_lk {st : Stmt} {r : Ir} {w : SW} {t : TS} (p : PS X st t) (j : ∀ D σ H, liftS T W w D σ H → t D σ H) : PS X st (liftS T W (wLkS r w)) :=
  PS.imp (PS.or p (ps_lock p)) fun D σ H ⟨ρ, τ, h, Dn, R, S, q, n⟩ => by
    unfold wLkS at q
    split at q
    · exact .inl (j _ _ _ ⟨ρ, τ, h, Dn, R, S, q, n⟩)
    · next a kvs e =>
      obtain ⟨p, m, hp, hv, rk⟩ := lk_free R S e
      refine .inr ⟨p, .dK m, hv, trivial, fun od => j _ _ _ ?_⟩
      have a1 := lock_rp (od := od) R hp hv rk
      have un : ∀ {ρ2 : List Addr} {H2 : Hp} {h2 : Hh}, Aft T ρ (upd H p (.frz od (.dK m))) ρ2 h2 H2 → H2 p = some (.frz od (.dK m)) ∧ Aft T ρ H ρ2 (h2.set a (.dct false kvs)) (upd H2 p (.dK m)) ∧ Ext0 H2 (upd H2 p (.dK m)) := fun a2 => by
        obtain ⟨e0, a3⟩ := unlock_aft R hp hv rk a2
        exact ⟨e0, a3, fun b o i e => by
          rw [upd_ne]
          · exact e
          · intro z; subst z; rw [e0] at e; cases e
            rcases i with ⟨_, z⟩ | ⟨_, _, z⟩ | ⟨_, z⟩ <;> cases z⟩
      have rs : ∀ {ρ2 : List Addr} {H2 H3 : Hp} {τ2 : Sl} {σ2 : L2.St}, Ext0 H2 H3 → RelS T ρ2 H2 τ2 σ2 → RelS T ρ2 H3 τ2 σ2 := fun x s => ⟨s.1, fun i d e => by
        obtain ⟨v, e1, r⟩ := s.2 i d e
        exact ⟨v, e1, r.mono0 (List.prefix_refl _) x⟩⟩
      refine ⟨ρ, τ, _, _, a1.rp, a1.s S, q, ⟨fun ρ2 H2 h2 τ2 σ2 a2 S2 ⟨_, q2⟩ => ?_, fun ρ2 H2 h2 d v a2 rd ⟨_, q2⟩ => ?_, fun ρ2 H2 h2 τ2 σ2 a2 S2 ⟨_, q2⟩ => ?_, fun ρ2 H2 h2 τ2 σ2 a2 S2 ⟨_, q2⟩ => ?_, fun ρ2 H2 h2 τ2 σ2 c fs cls dx a2 S2 rx q2 => ?_⟩⟩
      · obtain ⟨e0, a3, x⟩ := un a2
        exact ⟨e0, n.nx _ _ _ _ _ a3 (rs x S2) q2⟩
      · obtain ⟨e0, a3, x⟩ := un a2
        exact ⟨e0, n.rt _ _ _ _ _ a3 (rd.mono0 (List.prefix_refl _) x) q2⟩
      · obtain ⟨e0, a3, x⟩ := un a2
        exact ⟨e0, n.bk _ _ _ _ _ a3 (rs x S2) q2⟩
      · obtain ⟨e0, a3, x⟩ := un a2
        exact ⟨e0, n.ct _ _ _ _ _ a3 (rs x S2) q2⟩
      · exact n.ex _ _ _ _ _ _ _ _ _ (a1.trans a2) S2 rx q2
theorem ms_rse (hc : X.calm = true) (tk : Takes X W) {c : Nat} {e : Expr} {ws : AW} {pos : Pos} (p : PMk X e (liftM T W c (wMk Z c ws))) : PS X (.Raise (some e) none pos) (liftS T W fun D τ h => ws (fun ds h1 => match Z.mkf c ds with
      | some fs => D.ex c fs τ h1
      | none => False) (D.px τ) τ h) :=
  PS.imp (ps_raise hc tk p) fun D σ H ⟨ρ, τ, h, Dn, R, S, q, n⟩ => ⟨ρ, τ, h, fun fs h1 => Dn.ex c fs τ h1, _, R, S, q, fun ρ1 H1 h1 fs cls dx a rx q1 => n.ex _ _ _ _ _ _ _ _ _ a (a.s S) rx q1, n.lx S⟩
/-- try: .. except c as n: m = n -/
theorem ms_try {body : List Stmt} {x n m : Str} {c : Nat} {cv : Value} {i j : Nat} {wb : SW} {np pos pos' py pv' pa : Pos} (hK : X.K = T.K) (hs : X.stack = X.env :: X.outer) (hf : X.env.frame = some X.env.locals) (hN : X.N.Nodup) (hi : X.N[i]? = some n) (hln : X.env.kindOf n = some .local) (hj : X.N[j]? = some m) (hlm : Loc X.env.scope m) (hfm : X.fn m = true ∨ X.env.scope.names.lookup m = some .local)
    (hd : (n == ("__debug__" : Str)) = false) (hcd : (n == ("__classdict__" : Str)) = false) (hc : Names X x cv) (tk : Takes X W) (hex : X.ex = []) (hE : ∀ e, e < Z.nx → PySem.W.exmOne T.K (.ref (T.xa e)) cv = some (Z.le e c))
    (hb : ∀ (W' : WX) (pn : List (Addr × Obj)) (xe : Value → Shared → Prop), Takes (X.tr pn xe) W' → PassesOwn (model X.prog X.w) X.A X.env xe → PSs (X.tr pn xe) body (liftS T W' wb)) :
    PS X (.Try body [.ExceptHandler (some (.Name x np)) (some n) [.Assign [.Name m py] (.Name n pv') pa] pos'] [] [] pos) (liftS T W fun D τ h => wb { D with ex := fun e fs τ1 h1 => e < Z.nx ∧ if Z.le e c = true then D.nx (((τ1.set i (some (.exn e fs))).set j (some (.exn e fs))).set i none) h1 else D.ex e fs τ1 h1 } τ h) :=
  PS.imp (ps_try_keep (tb := fun W' => liftS T W' wb) hs hf hN hi hln hj hlm hfm hd hcd hc tk hex hb) fun D σ H ⟨ρ, τ, h, Dn, R, S, q, n⟩ => by
    refine ⟨ρ, τ, h, _, R, S, q, ⟨n.nx, n.rt, n.bk, n.ct, fun ρ1 H1 h1 τ1 σ1 e fs cls dx a S1 rx ⟨he, q1⟩ => ⟨Z.le e c, T.xa e, rx.1, by rw [rx.1, hK]; exact hE e he, fun et p hp => ?_, fun ef => ?_⟩⟩⟩
    · rw [if_pos et] at q1
      have aa : Aft T ρ1 H1 ρ1 h1 (upd H1 p (ExH (T.xa e) dx p)) := .tup a.rp hp
      have re : RelD T ρ1 (upd H1 p (ExH (T.xa e) dx p)) (.exn e fs) (.ref p) := by
        rcases rx.2 with ⟨rfl, rfl⟩ | ⟨d, vs, rfl, hd, hl, rs⟩
        · exact .exn upd_same
        · exact .exf upd_same (by rw [upd_ne (fun z => by rw [z, hp] at hd; cases hd)]; exact hd) hl (aa.ds rs)
      exact n.nx _ _ _ _ _ (a.trans aa) ((((aa.s S1).set i re).set j re).clear i) q1
    · rw [if_neg (by rw [ef]; exact Bool.false_ne_true)] at q1
      exact n.ex _ _ _ _ _ _ _ _ _ a S1 rx q1
end
end Mi

set_option Elab.async false
set_option linter.all false
set_option maxRecDepth 100000
set_option maxHeartbeats 1000000
/-! Mi: a text of the program as a text of Mi. -/
namespace Mi
open PySem PySem.Spec PyProof.Rows L2

structure Sc where
  N : List Str
  sc : Scope
  all : Bool
  own : Scope
def Sc.fn (S : Sc) (x : Str) : Bool := S.all || (S.own.names.lookup x == some .cell)
def Sc.ix (S : Sc) (x : Str) : Option Nat := if (x == ("__debug__" : Str)) || (x == ("__classdict__" : Str)) then none else S.N.findIdx? (· == x)
def Sc.slot (S : Sc) (x : Str) : Option Nat := match S.sc.names.lookup x with
  | some .local => S.ix x
  | some .cell => S.ix x
  | some .free => S.ix x
  | _ => none
def Sc.glob (S : Sc) (x : Str) : Bool := decide (S.sc.names.lookup x = some .globalImplicit) && !(x == ("__debug__" : Str))
def Sc.sto (S : Sc) (x : Str) : Option Nat := match S.sc.names.lookup x with
  | some .local => S.ix x
  | some .cell => if S.fn x then S.ix x else none
  | _ => none
def Sc.blk (S : Sc) (scope : Scope) : Sc := ⟨S.N, relS scope S.sc, false, scope⟩
def Sc.owns (S : Sc) (scope : Scope) : List (Str × Nat) := scope.names.filterMap fun y => match y.2 with
  | .local => (S.N.findIdx? (· == y.1)).map fun i => (y.1, i)
  | .cell => (S.N.findIdx? (· == y.1)).map fun i => (y.1, i)
  | _ => none
def opOf : Operator → Option Op2
  | .Add => some .add
  | .Sub => some .sub
  | .Mult => some .mul
  | .FloorDiv => some .div
  | .Mod => some .mod
  | .Pow => some .pow
  | _ => none
def cmpOf : CmpOp → Op2
  | .Eq => .eq
  | .NotEq => .ne
  | .Lt => .lt
  | .LtE => .le
  | .Gt => .gt
  | .GtE => .ge
  | .Is => .iss
  | .IsNot => .isnt
  | .In => .inn
  | .NotIn => .notin
def biOf (x : Str) : Option Bi :=
  if x = "len" then some .len else if x = "abs" then some .abs else if x = "int" then some .int else if x = "min" then some .min2 else if x = "max" then some .max2 else if x = "sum" then some .sum
  else if x = "any" then some .any else if x = "all" then some .all else if x = "list" then some .list else if x = "tuple" then some .tuple else none
def tyOf (x : Str) : Option Ty := if x = "str" then some .str else if x = "int" then some .int else if x = "bool" then some .bl else if x = "tuple" then some .tup else if x = "list" then some .lst else if x = "dict" then some .dct else none
def mtOf (x : Str) : Option Mt := [Mt.append, .extend, .pop, .count, .index, .get, .setdefault].find? fun m => x == Str.ofString m.name
def okBase : Expr → Bool
  | .Call _ [] [] _ => false
  | _ => true
def isTupE : Expr → Bool
  | .Tuple .. => true
  | _ => false
def esOf (f : Expr → Option E) : List Expr → Option Es
  | [] => some .nil
  | a :: r => (f a).bind fun a => (esOf f r).map fun r => .cons a r
def psOf (f : Expr → Option E) : List (Option Expr) → List Expr → Option Ps
  | [], [] => some .nil
  | some a :: r, b :: q => (f a).bind fun a => (f b).bind fun b => (psOf f r q).map fun r => .cons a b r
  | _, _ => none
def boOf (f : Expr → Option E) (op : BoolOp) : List Expr → Option E
  | [] => none
  | [a] => f a
  | a :: b :: r => (f a).bind fun a => (boOf f op (b :: r)).map fun r => match op with
    | .And => .and a r
    | .Or => .or a r
def eoOf (f : Expr → Option E) : Option Expr → Option Eo
  | none => some .no
  | some a => (f a).map .so
def ifOf (f : Expr → Option E) : List Expr → Option Eo
  | [] => some .no
  | [a] => (f a).map .so
  | _ => none
mutual
def gOf (S : Sc) : Nat → Expr → Option G
  | 0, _ => none
  | n + 1, .Name x _ => (S.sto x).map .n
  | n + 1, .Tuple es _ _ => (gsOf S n es).map .t
  | _, _ => none
def gsOf (S : Sc) : Nat → List Expr → Option Gs
  | 0, _ => none
  | n + 1, [] => some .nil
  | n + 1, a :: r => (gOf S n a).bind fun a => (gsOf S n r).map fun r => .cons a r
end
def irOf (G : Gi) (S : Sc) (f : Expr → Option E) (tg : Expr) : Expr → Option Ir
  | .Name x _ => (S.slot x).map .nm
  | .Call (.Name x p) args kws pos => if S.glob x && G.free.contains x && kws.isEmpty then
      (match args with
      | [a] => if x = "range" then (f a).map .r1 else if x = "enumerate" then (if isTupE tg then (f a).map .en else none) else (f (.Call (.Name x p) args kws pos)).map .of
      | [a, b] => if x = "range" then (f a).bind fun a => (f b).map fun b => .r2 a b else if x = "zip" then (if isTupE tg then (f a).bind fun a => (f b).map fun b => .zp a b else none) else (f (.Call (.Name x p) args kws pos)).map .of
      | _ => (f (.Call (.Name x p) args kws pos)).map .of)
    else (f (.Call (.Name x p) args kws pos)).map .of
  | .Call (.Attribute (.Name x p) m apos) [] [] cpos => match S.slot x with
    | some i => if (apos.endLine == cpos.line) = false then none else if m = "items" then (if isTupE tg then some (.its i) else none) else if m = "values" then some (.vls i) else if m = "keys" then some (.kys i) else (f (.Call (.Attribute (.Name x p) m apos) [] [] cpos)).map .of
    | none => none
  | e => (f e).map .of
def callOf (G : Gi) (S : Sc) (f : Expr → Option E) (x : Str) (args : List Expr) : Option E :=
  if S.glob x then
    match G.fns.lookup x with
    | some k => (esOf f args).map (.call k)
    | none => match G.xcs.lookup x with
      | some c => (esOf f args).map (.mk c)
      | none => if G.free.contains x then
          (if x = "isinstance" then (match args with
            | [a, .Name y _] => if S.glob y then (f a).bind fun a => (match G.cls.lookup y with
              | some c => some (.isx c a)
              | none => if G.free.contains y then (tyOf y).map fun t => .isi t a else none) else none
            | _ => none)
          else if args.isEmpty then none else (biOf x).bind fun b => (esOf f args).map (.bi b))
        else none
  else none
def eOf (G : Gi) : Nat → Sc → Expr → Option E
  | 0, _, _ => none
  | n + 1, S, x => match x with
    | .Constant .none _ _ => some (.k .non)
    | .Constant (.bool b) _ _ => some (.k (.bl b))
    | .Constant (.int i) _ _ => some (.k (.int i))
    | .Constant (.str s) _ _ => some (.k (.str s.cps.toList))
    | .Name x _ => match S.slot x with
      | some i => some (.v i)
      | none => if S.glob x then (G.cst.lookup x).map .k else none
    | .Tuple es _ _ => (esOf (eOf G n S) es).map .tup
    | .List es _ => (esOf (eOf G n S) es).map .lst
    | .Dict ks vs _ => if ks.length ≤ 15 then (psOf (eOf G n S) ks vs).map .dct else none
    | .BinOp a op b _ => (opOf op).bind fun o => (eOf G n S a).bind fun a => (eOf G n S b).map fun b => .op o a b
    | .Compare a [op] [b] _ => (eOf G n S a).bind fun a => (eOf G n S b).map fun b => .op (cmpOf op) a b
    | .Compare a [op, op'] [b, c] _ => (eOf G n S a).bind fun a => (eOf G n S b).bind fun b => (eOf G n S c).map fun c => .chain (cmpOf op) (cmpOf op') a b c
    | .UnaryOp .Not a _ => (eOf G n S a).map .not
    | .UnaryOp .USub a _ => (eOf G n S a).map .neg
    | .BoolOp op vs _ => boOf (eOf G n S) op vs
    | .IfExp c a b _ => (eOf G n S c).bind fun c => (eOf G n S a).bind fun a => (eOf G n S b).map fun b => .ite c a b
    | .Subscript a (.Slice none none (some (.UnaryOp .USub (.Constant (.int i) _ _) _)) _) _ => if i = 1 then (eOf G n S a).map .rev else none
    | .Subscript a (.Slice lo hi none _) _ => (eOf G n S a).bind fun a => (eoOf (eOf G n S) lo).bind fun lo => (eoOf (eOf G n S) hi).map fun hi => .sl a lo hi
    | .Subscript a b _ => (eOf G n S a).bind fun a => (eOf G n S b).map fun b => .op .ix a b
    | .Call (.Name x _) args [] _ => callOf G S (eOf G n S) x args
    | .Call (.Attribute o m apos) args [] cpos => if (apos.endLine == cpos.line) && okBase o && decide (args.length < 30) then (mtOf m).bind fun m => (eOf G n S o).bind fun o => (esOf (eOf G n S) args).map fun es => .mt m o es else none
    | .Attribute o f _ => if okBase o then (eOf G n S o).map fun o => .fld o f else none
    | .ListComp elt [⟨tg, it, ifs, 0⟩] scope _ => if blkC S.N S.sc scope (S.owns scope) then
        (irOf G S (eOf G n S) tg it).bind fun r => (gOf (S.blk scope) n tg).bind fun g => (ifOf (eOf G n (S.blk scope)) ifs).bind fun c => (eOf G n (S.blk scope) elt).bind fun e =>
          if g.slots.all (fun i => ((S.owns scope).map (·.2)).contains i) then some (.cp g r c e ((S.owns scope).map (·.2))) else none
      else none
    | .ListComp elt [⟨tg, it, ifs, 0⟩, ⟨tg1, it1, ifs1, 0⟩] scope _ => if blkC S.N S.sc scope (S.owns scope) then
        (irOf G S (eOf G n S) tg it).bind fun r => (gOf (S.blk scope) n tg).bind fun g => (ifOf (eOf G n (S.blk scope)) ifs).bind fun c =>
        (irOf G (S.blk scope) (eOf G n (S.blk scope)) tg1 it1).bind fun r1 => (gOf (S.blk scope) n tg1).bind fun g1 => (ifOf (eOf G n (S.blk scope)) ifs1).bind fun c1 => (eOf G n (S.blk scope) elt).bind fun e =>
          if g.slots.all (fun i => ((S.owns scope).map (·.2)).contains i) && g1.slots.all (fun i => ((S.owns scope).map (·.2)).contains i) then some (.cp2 g r c g1 r1 c1 e ((S.owns scope).map (·.2)) g1.slots) else none
      else none
    | .DictComp kx elt [⟨tg, it, ifs, 0⟩] scope _ => if blkC S.N S.sc scope (S.owns scope) then
        (irOf G S (eOf G n S) tg it).bind fun r => (gOf (S.blk scope) n tg).bind fun g => (ifOf (eOf G n (S.blk scope)) ifs).bind fun c => (eOf G n (S.blk scope) kx).bind fun kx => (eOf G n (S.blk scope) elt).bind fun e =>
          if g.slots.all (fun i => ((S.owns scope).map (·.2)).contains i) then some (.dc g r c kx e ((S.owns scope).map (·.2))) else none
      else none
    | _ => none
end Mi

set_option Elab.async false
set_option linter.all false
set_option maxRecDepth 100000
set_option maxHeartbeats 2000000
/-! Mi: the text of Mi is sound: expressions. -/
namespace Mi
open PySem PySem.Spec PyProof.Rows L2

theorem bnd {α β : Type} {o : Option α} {f : α → Option β} {b : β} (h : o.bind f = some b) : ∃ a, o = some a ∧ f a = some b := Option.bind_eq_some_iff.mp h
theorem mpd {α β : Type} {o : Option α} {f : α → β} {b : β} (h : o.map f = some b) : ∃ a, o = some a ∧ f a = b := Option.map_eq_some_iff.mp h
theorem itd {α : Type} {c : Prop} [Decidable c] {o : Option α} {b : α} (h : (if c then o else none) = some b) : c ∧ o = some b := by
  by_cases hc : c
  · rw [if_pos hc] at h; exact ⟨hc, h⟩
  · rw [if_neg hc] at h; cases h
theorem ix_ok {S : Sc} {x : Str} {i : Nat} (h : S.ix x = some i) : S.N[i]? = some x ∧ (x == ("__debug__" : Str)) = false ∧ (x == ("__classdict__" : Str)) = false := by
  unfold Sc.ix at h
  split at h
  · cases h
  · next hc =>
    simp only [Bool.or_eq_true, not_or, Bool.not_eq_true] at hc
    refine ⟨?_, hc⟩
    obtain ⟨hi, e, _⟩ := List.findIdx?_eq_some_iff_getElem.mp h
    rw [List.getElem?_eq_getElem hi, eq_of_beq e]
theorem slot_ok {S : Sc} {x : Str} {i : Nat} (h : S.slot x = some i) : S.N[i]? = some x ∧ Vis S.sc x ∧ (x == ("__debug__" : Str)) = false ∧ (x == ("__classdict__" : Str)) = false := by
  unfold Sc.slot at h
  split at h
  · next e => obtain ⟨a, b⟩ := ix_ok h; exact ⟨a, .inl e, b⟩
  · next e => obtain ⟨a, b⟩ := ix_ok h; exact ⟨a, .inr (.inl e), b⟩
  · next e => obtain ⟨a, b⟩ := ix_ok h; exact ⟨a, .inr (.inr e), b⟩
  · cases h
theorem sto_ok {S : Sc} {x : Str} {i : Nat} (h : S.sto x = some i) : S.N[i]? = some x ∧ Loc S.sc x ∧ (S.fn x = true ∨ S.sc.names.lookup x = some .local) := by
  unfold Sc.sto at h
  split at h
  · next e => obtain ⟨a, b⟩ := ix_ok h; exact ⟨a, .inl e, .inr e⟩
  · next e =>
    obtain ⟨hf, h⟩ := itd h
    obtain ⟨a, b⟩ := ix_ok h
    exact ⟨a, .inr e, .inl hf⟩
  · cases h
theorem glob_ok {S : Sc} {x : Str} (h : S.glob x = true) : S.sc.names.lookup x = some .globalImplicit ∧ (x == ("__debug__" : Str)) = false := by
  unfold Sc.glob at h
  simp only [Bool.and_eq_true, decide_eq_true_eq, Bool.not_eq_true'] at h
  exact h
theorem lookup_mem {α : Type} : ∀ {l : List (Str × α)} {x : Str} {a : α}, l.lookup x = some a → (x, a) ∈ l
  | [], _, _, h => by cases h
  | (y, b) :: l, x, a, h => by
    rw [List.lookup_cons] at h
    by_cases e : (x == y) = true
    · rw [e] at h; cases h; rw [eq_of_beq e]; exact List.mem_cons_self
    · rw [Bool.not_eq_true] at e; rw [e] at h; exact List.mem_cons_of_mem _ (lookup_mem h)
theorem free_mem {l : List Str} {x : Str} (h : l.contains x = true) : x ∈ l := by simpa using h

structure Ck (G : Gi) (T : Tab) (Z : Zi) (C : Cal) (k : Nat) (S : Sc) (X : Cx) (W : WX) : Prop where
  N : X.N = S.N
  nd : S.N.Nodup
  sc : X.env.scope = S.sc
  fn : ∀ x, S.fn x = true → X.fn x = true
  K : X.K = T.K
  calm : X.calm = true
  room : Room k X.A
  k3 : 3 ≤ k
  tk : Takes X W
  fa : Facts G T Z C X.prog X.w X.mg X.base k
section
variable {X : Cx} {T : Tab} {W : WX} {Z : Zi} {C : Cal} {G : Gi} {k : Nat} {S : Sc}
theorem Ck.hN (c : Ck G T Z C k S X W) : X.N.Nodup := by rw [c.N]; exact c.nd
theorem Ck.un (c : Ck G T Z C k S X W) : X.A.units + 200 < cLine := by have := c.room.un; omega
theorem Ck.at_ (c : Ck G T Z C k S X W) {x : Str} {i : Nat} (h : S.N[i]? = some x) : X.N[i]? = some x := by rw [c.N]; exact h
theorem Ck.gl (c : Ck G T Z C k S X W) {x : Str} (h : S.sc.names.lookup x = some .globalImplicit) : Gl X x := by
  show X.env.scope.names.lookup x = _
  rw [c.sc]; exact h
theorem Ck.blk (c : Ck G T Z C k S X W) (s : Shared) (H : Hp) (scope : Scope) (Cc : Addr) (cl : List (Str × Addr)) (fp : List Addr) : Ck G T Z C k (S.blk scope) (X.blk s H scope (compEnvC scope cl Cc X.env) fp) W0 where
  N := c.N
  nd := c.nd
  sc := by
    show relS scope X.env.scope = relS scope S.sc
    rw [c.sc]
  fn := fun x h => by
    unfold Sc.fn Sc.blk at h
    simpa using h
  K := c.K
  calm := c.calm
  room := c.room
  k3 := c.k3
  tk := takes0
  fa := c.fa
theorem opOf_ok (c : Ck G T Z C k S X W) {op : Operator} {o : Op2} (h : opOf op = some o) : OpR X (binaryOp op) (r2 T o.sem) := by
  cases op <;> cases h
  · exact op_addS c.K
  · exact op_subS
  · exact op_mulS c.K
  · exact op_modS
  · exact op_powS
  · exact op_divS
theorem cmpOf_ok (c : Ck G T Z C k S X W) (op : CmpOp) : OpR X (compareOp op) (r2 T (cmpOf op).sem) := by
  cases op
  · exact op_eqS c.K c.un
  · exact op_neS c.K c.un
  · exact op_ltS
  · exact op_leS
  · exact op_gtS
  · exact op_geS
  · exact op_isS
  · exact op_isntS
  · exact op_inS c.K c.un
  · exact op_notInS c.K c.un
theorem cmp_blf (op : CmpOp) : Blf (cmpOf op).sem := by
  intro h x y z h' e
  cases op
  · obtain ⟨b, _, e⟩ := mpd e; cases e; exact ⟨_, rfl⟩
  · obtain ⟨b, _, e⟩ := mpd e; cases e; exact ⟨_, rfl⟩
  · replace e : ltS h x y = some (z, h') := e
    unfold ltS at e
    split at e <;> cases e <;> exact ⟨_, rfl⟩
  · replace e : leS h x y = some (z, h') := e
    unfold leS at e
    split at e <;> cases e <;> exact ⟨_, rfl⟩
  · replace e : gtS h x y = some (z, h') := e
    unfold gtS at e
    split at e <;> cases e <;> exact ⟨_, rfl⟩
  · replace e : geS h x y = some (z, h') := e
    unfold geS at e
    split at e <;> cases e <;> exact ⟨_, rfl⟩
  · replace e : isS h x y = some (z, h') := e
    unfold isS at e
    repeat' split at e
    all_goals first | (cases e; exact ⟨_, rfl⟩) | cases e
  · replace e : isntS h x y = some (z, h') := e
    unfold isntS at e
    repeat' split at e
    all_goals first | (cases e; exact ⟨_, rfl⟩) | cases e
  · obtain ⟨b, _, e⟩ := mpd e; cases e; exact ⟨_, rfl⟩
  · obtain ⟨b, _, e⟩ := mpd e; cases e; exact ⟨_, rfl⟩
/-- a built-in's call -/
theorem me_biOf (c : Ck G T Z C k S X W) {x : Str} {b : Bi} {p pos : Pos} {e : Expr} {es : List Expr} {ws : AW} (h : biOf x = some b) (hg : Gl X x) (hm : X.mg x = none) (hn : x ≠ "__name__") (hdb : (x == ("__debug__" : Str)) = false)
    (ha : PA X (e :: es) (liftA T W ws)) (hns : ∀ y ∈ e :: es, noStar y = true) : PE X (.Call (.Name x p) (e :: es) [] pos) (liftE T W fun Q Qx τ h => ws (fun ds h' => okS (b.sem h' ds) Q) Qx τ h) := by
  unfold biOf at h
  split at h
  · next e => subst e; cases h; exact me_bi (cr_lenS c.K) hg hm rfl hn hdb ha hns
  split at h
  · next e => subst e; cases h; exact me_bi cr_absS hg hm rfl hn hdb ha hns
  split at h
  · next e => subst e; cases h; exact me_ty cr_intS hg hm rfl hn hdb ha hns
  split at h
  · next e => subst e; cases h; exact me_bi (cr_min2S c.calm) hg hm rfl hn hdb ha hns
  split at h
  · next e => subst e; cases h; exact me_bi (cr_max2S c.calm) hg hm rfl hn hdb ha hns
  split at h
  · next e => subst e; cases h; exact me_bi (cr_sumS c.calm c.K) hg hm rfl hn hdb ha hns
  split at h
  · next e => subst e; cases h; exact me_bi (cr_anyS c.calm c.K) hg hm rfl hn hdb ha hns
  split at h
  · next e => subst e; cases h; exact me_bi (cr_allS c.calm c.K) hg hm rfl hn hdb ha hns
  split at h
  · next e => subst e; cases h; exact me_ty (cr_listS c.K) hg hm rfl hn hdb ha hns
  split at h
  · next e => subst e; cases h; exact me_ty (cr_tupleS c.K) hg hm rfl hn hdb ha hns
  · cases h
theorem tyOf_ok {y : Str} {t : Ty} (h : tyOf y = some t) : bootBuiltins y = some (.type t.name) := by
  unfold tyOf at h
  split at h
  · next e => subst e; cases h; rfl
  split at h
  · next e => subst e; cases h; rfl
  split at h
  · next e => subst e; cases h; rfl
  split at h
  · next e => subst e; cases h; rfl
  split at h
  · next e => subst e; cases h; rfl
  split at h
  · next e => subst e; cases h; rfl
  · cases h
theorem mtOf_ok {x : Str} {m : Mt} (h : mtOf x = some m) : x = Str.ofString m.name := by
  unfold mtOf at h
  have := List.find?_some h
  exact eq_of_beq this
theorem base_ok {o : Expr} (h : okBase o = true) (f : Str) (env : Env) (w : Sem Value) : attributeBase o f env w = w := by
  cases o with
  | Call fn args kws pos =>
    cases args with
    | cons _ _ => cases fn <;> rfl
    | nil =>
      cases kws with
      | cons _ _ => cases fn <;> rfl
      | nil => cases h
  | _ => rfl
end
end Mi

set_option Elab.async false
set_option linter.all false
set_option maxRecDepth 100000
set_option maxHeartbeats 2000000
/-! Mi: the text of Mi is sound: expressions. -/
namespace Mi
open PySem PySem.Spec PyProof.Rows L2
section
variable {X : Cx} {T : Tab} {W : WX} {Z : Zi} {C : Cal} {G : Gi} {k : Nat} {S : Sc}
theorem eOf_noStar {n : Nat} {x : Expr} {e : E} (h : eOf G n S x = some e) : noStar x = true := by
  cases n with
  | zero => cases h
  | succ n => cases x <;> first | rfl | cases h
theorem eOf_noSlice {n : Nat} {x : Expr} {e : E} (h : eOf G n S x = some e) : PlainIx x := by
  cases n with
  | zero => cases h
  | succ n => cases x <;> first | (intro o i; rfl) | cases h
theorem eOf_noSet {n : Nat} {x : Expr} {e : E} (h : eOf G n S x = some e) (op : CmpOp) : behindInMarks op x = false := by
  cases n with
  | zero => cases h
  | succ n => cases x <;> first | rfl | cases h
theorem eOf_fold {n : Nat} {x : Expr} {e : E} (h : eOf G n S x = some e) (env : Env) (v : Value) : foldedSetIterable x env v = pure v := by
  cases n with
  | zero => cases h
  | succ n => cases x <;> first | rfl | cases h
abbrev EOk (X : Cx) (T : Tab) (W : WX) (Z : Zi) (C : Cal) (f : Expr → Option E) : Prop := ∀ x e, f x = some e → PE X x (liftE T W (wE Z C e)) ∧ PT X x (liftB T W (tst (wE Z C e)))
theorem esOf_ok {f : Expr → Option E} (F : EOk X T W Z C f) (N : ∀ x e, f x = some e → noStar x = true) : ∀ {xs : List Expr} {es : Es}, esOf f xs = some es → PA X xs (liftA T W (wEs Z C es)) ∧ (∀ y ∈ xs, noStar y = true) ∧ (xs = [] → ∀ Q Qx τ h, wEs Z C es Q Qx τ h → Q [] h)
  | [], es, h => by cases h; exact ⟨ma_nil, fun _ hy => (by cases hy), fun _ _ _ _ _ q => q⟩
  | x :: xs, es, h => by
    obtain ⟨a, ha, h⟩ := bnd h
    obtain ⟨r, hr, rfl⟩ := mpd h
    obtain ⟨p, q, _⟩ := esOf_ok F N hr
    refine ⟨ma_cons (F x a ha).1 p (starEach_cons' (N x a ha)), fun y hy => ?_, fun e => (by cases e)⟩
    rcases List.mem_cons.mp hy with rfl | hy
    · exact N _ a ha
    · exact q y hy
theorem psOf_ok {f : Expr → Option E} (F : EOk X T W Z C f) {pos : Pos} : ∀ {ks : List (Option Expr)} {vs : List Expr} {ps : Ps}, psOf f ks vs = some ps → MPs X T W pos ks vs (wPs Z C ps) ∧ (ks = [] → ∀ Q Qx τ h, wPs Z C ps Q Qx τ h → Q [] h)
  | [], [], ps, h => by cases h; exact ⟨mp_nil, fun _ _ _ _ _ q => q⟩
  | [], _ :: _, ps, h => by cases h
  | none :: _, _, ps, h => by cases h
  | some _ :: _, [], ps, h => by cases h
  | some a :: ks, b :: vs, ps, h => by
    obtain ⟨a', ha, h⟩ := bnd h
    obtain ⟨b', hb, h⟩ := bnd h
    obtain ⟨r, hr, rfl⟩ := mpd h
    exact ⟨mp_cons (F _ _ ha).1 (F _ _ hb).1 (psOf_ok F hr).1, fun e => (by cases e)⟩
theorem boOf_ok (hK : X.K = T.K) {f : Expr → Option E} (F : EOk X T W Z C f) {op : BoolOp} {pos : Pos} : ∀ {vs : List Expr} {e : E}, boOf f op vs = some e → PE X (.BoolOp op vs pos) (liftE T W (wE Z C e)) ∧ PW X (.BoolOp op vs pos) (liftB T W (tst (wE Z C e)))
  | [], e, h => by cases h
  | [a], e, h => by
    obtain ⟨p, q⟩ := F a e h
    refine ⟨pe_one p, ?_⟩
    cases op
    · exact pw_and1 q
    · exact pw_or1 q
  | a :: b :: r, e, h => by
    obtain ⟨a', ha, h⟩ := bnd h
    obtain ⟨r', hr, rfl⟩ := mpd h
    obtain ⟨p, q⟩ := F a a' ha
    obtain ⟨p2, q2⟩ := boOf_ok hK F hr
    cases op
    · exact ⟨me_and hK p p2, mw_and q q2⟩
    · exact ⟨me_or hK p p2, mw_or q q2⟩
theorem eoOf_ok {f : Expr → Option E} (F : EOk X T W Z C f) : ∀ {o : Option Expr} {e : Eo}, eoOf f o = some e → PO X o (liftO T W (wO Z C e))
  | none, e, h => by cases h; exact mo_none
  | some a, e, h => by
    obtain ⟨a', ha, rfl⟩ := mpd h
    exact mo_some (F a a' ha).1
theorem ifOf_ok {f : Expr → Option E} (F : EOk X T W Z C f) : ∀ {o : List Expr} {e : Eo}, ifOf f o = some e → PTs X o (liftB T W (wT Z C e))
  | [], e, h => by cases h; exact mts_nil
  | [a], e, h => by
    obtain ⟨a', ha, rfl⟩ := mpd h
    exact mts_one (F a a' ha).2
  | _ :: _ :: _, e, h => by cases h
mutual
theorem gOf_ok (c : Ck G T Z C k S X W) : ∀ {n : Nat} {x : Expr} {g : Mi.G}, gOf S n x = some g → PG X x (liftG T g.slots fun h d => gAs h g d) ∧ noStar x = true
  | 0, x, g, h => by cases h
  | n + 1, .Name x _, g, h => by
    obtain ⟨i, hi, rfl⟩ := mpd h
    obtain ⟨a, b, d⟩ := sto_ok hi
    refine ⟨mg_n c.hN (c.at_ a) (by rw [c.sc]; exact b) ?_, rfl⟩
    rcases d with d | d
    · exact .inl (c.fn _ d)
    · exact .inr (by rw [c.sc]; exact d)
  | n + 1, .Tuple es _ _, g, h => by
    obtain ⟨gs, hg, rfl⟩ := mpd h
    obtain ⟨p, q, l⟩ := gsOf_ok c hg
    exact ⟨mg_t c.K c.calm p q l, rfl⟩
  | n + 1, .BoolOp .., g, h | n + 1, .NamedExpr .., g, h | n + 1, .BinOp .., g, h | n + 1, .UnaryOp .., g, h | n + 1, .Lambda .., g, h | n + 1, .IfExp .., g, h | n + 1, .Dict .., g, h | n + 1, .Set .., g, h
  | n + 1, .ListComp .., g, h | n + 1, .SetComp .., g, h | n + 1, .DictComp .., g, h | n + 1, .GeneratorExp .., g, h | n + 1, .Await .., g, h | n + 1, .Yield .., g, h | n + 1, .YieldFrom .., g, h | n + 1, .Compare .., g, h
  | n + 1, .Call .., g, h | n + 1, .FormattedValue .., g, h | n + 1, .JoinedStr .., g, h | n + 1, .Constant .., g, h | n + 1, .Attribute .., g, h | n + 1, .Subscript .., g, h | n + 1, .Starred .., g, h | n + 1, .List .., g, h | n + 1, .Slice .., g, h => by cases h
theorem gsOf_ok (c : Ck G T Z C k S X W) : ∀ {n : Nat} {xs : List Expr} {gs : Gs}, gsOf S n xs = some gs → PGs X xs (liftGs T gs.slots fun h ds => gAss h gs ds) ∧ (∀ y ∈ xs, noStar y = true) ∧ xs.length = gs.len
  | 0, xs, gs, h => by cases h
  | n + 1, [], gs, h => by cases h; exact ⟨mgs_nil, fun _ hy => (by cases hy), rfl⟩
  | n + 1, x :: xs, gs, h => by
    obtain ⟨a, ha, h⟩ := bnd h
    obtain ⟨r, hr, rfl⟩ := mpd h
    obtain ⟨p, q⟩ := gOf_ok c ha
    obtain ⟨p2, q2, l⟩ := gsOf_ok c hr
    refine ⟨mgs_cons p p2 q, fun y hy => ?_, by rw [List.length_cons, l]; rfl⟩
    rcases List.mem_cons.mp hy with rfl | hy
    · exact q
    · exact q2 y hy
end
theorem isTupE_ok {tg : Expr} (h : isTupE tg = true) : ∃ es n p, tg = .Tuple es n p := by
  cases tg <;> first | exact ⟨_, _, _, rfl⟩ | cases h
theorem irOf_ok (c : Ck G T Z C k S X W) {n : Nat} (F : EOk X T W Z C (eOf G n S)) {tg x : Expr} {r : Ir} (h : irOf G S (eOf G n S) tg x = some r) : PI X tg x (liftI T W (wI Z C r)) ∧ ∀ env v, foldedSetIterable x env v = pure v := by
  have gen : ∀ {x : Expr} {r : Ir}, (eOf G n S x).map Ir.of = some r → PI X tg x (liftI T W (wI Z C r)) ∧ ∀ env v, foldedSetIterable x env v = pure v := fun {x r} h => by
    obtain ⟨e, he, rfl⟩ := mpd h
    exact ⟨mi_of c.K (F x e he).1, fun env v => eOf_fold he env v⟩
  unfold irOf at h
  split at h
  · next x p =>
    obtain ⟨i, hi, rfl⟩ := mpd h
    obtain ⟨a, b, d, d2⟩ := slot_ok hi
    exact ⟨mi_nm c.K (c.at_ a) (by rw [c.sc]; exact b) d d2, fun _ _ => rfl⟩
  · next x p args kws pos =>
    split at h
    · next hc =>
      simp only [Bool.and_eq_true] at hc
      obtain ⟨⟨h1, h2⟩, h3⟩ := hc
      have hg := c.gl (glob_ok h1).1
      have hm := (c.fa.fre _ (free_mem h2)).1
      have hk : kws = [] := by simpa using h3
      subst hk
      split at h
      · next a =>
        split at h
        · next ex =>
          subst ex
          obtain ⟨a', ha, rfl⟩ := mpd h
          exact ⟨mi_r1 hg hm (F _ _ ha).1 (eOf_noStar ha), fun _ _ => rfl⟩
        split at h
        · next ex =>
          subst ex
          obtain ⟨ht, h⟩ := itd h
          obtain ⟨es, m, q, rfl⟩ := isTupE_ok ht
          obtain ⟨a', ha, rfl⟩ := mpd h
          exact ⟨mi_en c.K hg hm (F _ _ ha).1 (eOf_noStar ha), fun _ _ => rfl⟩
        · exact gen h
      · next a b =>
        split at h
        · next ex =>
          subst ex
          obtain ⟨a', ha, h⟩ := bnd h
          obtain ⟨b', hb, rfl⟩ := mpd h
          exact ⟨mi_r2 hg hm (F _ _ ha).1 (F _ _ hb).1 (eOf_noStar ha) (eOf_noStar hb), fun _ _ => rfl⟩
        split at h
        · next ex =>
          subst ex
          obtain ⟨ht, h⟩ := itd h
          obtain ⟨es, m, q, rfl⟩ := isTupE_ok ht
          obtain ⟨a', ha, h⟩ := bnd h
          obtain ⟨b', hb, rfl⟩ := mpd h
          exact ⟨mi_zp c.K hg hm (F _ _ ha).1 (F _ _ hb).1 (eOf_noStar ha) (eOf_noStar hb), fun _ _ => rfl⟩
        · exact gen h
      · exact gen h
    · exact gen h
  · next x p m apos cpos =>
    split at h
    · next i hi =>
      obtain ⟨a, b, d, d2⟩ := slot_ok hi
      split at h
      · cases h
      · next hl =>
        have hl : (apos.endLine == cpos.line) = true := by simpa using hl
        split at h
        · next em =>
          subst em
          obtain ⟨ht, h⟩ := itd h
          cases h
          obtain ⟨es, m, q, rfl⟩ := isTupE_ok ht
          exact ⟨mi_its (c.at_ a) (by rw [c.sc]; exact b) d d2 hl, fun _ _ => rfl⟩
        split at h
        · next em =>
          subst em
          cases h
          exact ⟨mi_vls (c.at_ a) (by rw [c.sc]; exact b) d d2 hl, fun _ _ => rfl⟩
        split at h
        · next em =>
          subst em
          cases h
          exact ⟨mi_kys (c.at_ a) (by rw [c.sc]; exact b) d d2 hl, fun _ _ => rfl⟩
        · exact gen h
    · cases h
  · exact gen h
end
end Mi

set_option Elab.async false
set_option linter.all false
set_option maxRecDepth 100000
set_option maxHeartbeats 4000000
/-! Mi: the text of Mi is sound: expressions, together. -/
namespace Mi
open PySem PySem.Spec PyProof.Rows L2
section
variable {T : Tab} {Z : Zi} {C : Cal} {G : Gi} {k : Nat}
theorem callOf_ok {X : Cx} {W : WX} {S : Sc} (c : Ck G T Z C k S X W) {n : Nat} (F : EOk X T W Z C (eOf G n S)) {x : Str} {args : List Expr} {e : E} {p pos : Pos} (h : callOf G S (eOf G n S) x args = some e) : PE X (.Call (.Name x p) args [] pos) (liftE T W (wE Z C e)) := by
  have N : ∀ x e, eOf G n S x = some e → noStar x = true := fun x e h => eOf_noStar h
  unfold callOf at h
  obtain ⟨hg0, h⟩ := itd h
  obtain ⟨hg1, hdb⟩ := glob_ok hg0
  have hg := c.gl hg1
  split at h
  · next f hf =>
    obtain ⟨es, he, rfl⟩ := mpd h
    obtain ⟨p1, p2, p3⟩ := esOf_ok F N he
    obtain ⟨fa, fd, ps, hm, hk, hb, hl, hF⟩ := c.fa.fns x f (lookup_mem hf)
    rw [← c.K] at hk hb hF
    exact me_call c.tk hF c.room hg hm hk hb hl p1 hdb p2 p3
  split at h
  · next cc hf =>
    obtain ⟨es, he, rfl⟩ := mpd h
    obtain ⟨p1, p2, p3⟩ := esOf_ok F N he
    obtain ⟨hm, hk, s1, s2, mk⟩ := c.fa.xcs x cc (lookup_mem hf)
    have r : Raises X (.ref (T.xa cc)) := raises_own (by rw [c.K]; exact s1) (by rw [c.K]; exact s2)
    cases mk with
    | plain Fx q m => exact me_mk (mm_plain Fx (by rw [c.K]; exact q) m hm (by rw [c.K]; exact hk) r hg p1 hdb p2 p3)
    | own O iC tI F1 hk2 hb m =>
      exact me_mk (mm_own (by rw [c.K]; exact O) (by rw [c.K]; exact iC) (by rw [c.K]; exact tI) (by rw [c.K]; exact F1) (c.room.mono (by have := c.k3; omega)) (by rw [c.K]; exact hb) m hg hm p1 hdb p2 p3)
  split at h
  · next hfr =>
    obtain ⟨hm, hnm⟩ := c.fa.fre x (free_mem hfr)
    by_cases ex : x = "isinstance"
    · rw [if_pos ex] at h
      have hh := h
      clear h
      subst ex
      split at hh
      · next a y p2 =>
        obtain ⟨hy0, h⟩ := itd hh
        obtain ⟨hy1, hyd⟩ := glob_ok hy0
        have hgy := c.gl hy1
        obtain ⟨a', ha, h⟩ := bnd h
        cases hcl : G.cls.lookup y with
        | some cc =>
          rw [hcl] at h
          cases h
          obtain ⟨cv, v, hname, rv, uniq, hN, hE⟩ := c.fa.cls y cc (lookup_mem hcl)
          have hpe : PE X (.Name y p2) (tC v) := by
            rcases hname with hmy | ⟨hmy, hb, hn⟩
            · exact pe_glob hgy hmy rv hyd
            · exact pe_bltn hgy hmy hb rv hn hyd
          exact me_is (f := isxP Z cc) (is_exc c.K hN (fun e he => (hE e he).1) fun e he => (c.fa.own e he).1) hg hm (F _ _ ha).1 hpe uniq (eOf_noStar ha)
        | none =>
          rw [hcl] at h
          obtain ⟨hfy, h⟩ := itd h
          obtain ⟨t, ht, rfl⟩ := mpd h
          obtain ⟨hmy, hn⟩ := c.fa.fre y (free_mem hfy)
          have hpe : PE X (.Name y p2) (tC (.ty t.name)) := pe_bltn hgy hmy (tyOf_ok ht) rfl hn hyd
          exact me_is (f := fun h d Q => okS (isiS t h d) Q) (is_ty t) hg hm (F _ _ ha).1 hpe (fun u hu => hu) (eOf_noStar ha)
      · cases hh
    · rw [if_neg ex] at h
      by_cases hne : args.isEmpty = true
      · rw [if_pos hne] at h; cases h
      · rw [if_neg hne] at h
        obtain ⟨b, hb, h⟩ := bnd h
        obtain ⟨es, he, rfl⟩ := mpd h
        obtain ⟨p1, p2, p3⟩ := esOf_ok F N he
        cases args with
        | nil => exact absurd rfl hne
        | cons a args => exact me_biOf c hb hg hm hnm hdb p1 p2
  · cases h
theorem cp_eq (C : Cal) (g : Mi.G) (r : Ir) (c : Eo) (e : E) (own : List Nat) : wE Z C (.cp g r c e own) = wLk r (wLc (wI Z C r) g (wT Z C c) (wE Z C e) own) := by
  funext Q Qx τ h; rfl
theorem dc_eq (C : Cal) (g : Mi.G) (r : Ir) (c : Eo) (kx e : E) (own : List Nat) : wE Z C (.dc g r c kx e own) = wLk r (wDc (wI Z C r) g (wT Z C c) (wE Z C kx) (wE Z C e) own) := by
  funext Q Qx τ h; rfl
theorem cp2_eq (C : Cal) (g : Mi.G) (r : Ir) (c : Eo) (g1 : Mi.G) (r1 : Ir) (c1 : Eo) (e : E) (own own1 : List Nat) : wE Z C (.cp2 g r c g1 r1 c1 e own own1) = wLc2 (wI Z C r) g (wT Z C c) (wI Z C r1) g1 (wT Z C c1) (wE Z C e) own own1 := by
  funext Q Qx τ h; rfl
theorem slots_ok {s own : List Nat} (h : s.all (fun i => own.contains i) = true) : ∀ i ∈ s, i ∈ own := fun i hi => by
  have := List.all_eq_true.mp h i hi
  simpa using this
/-- the pieces of a comprehension -/
structure LcP (X : Cx) (T : Tab) (W : WX) (tg iter : Expr) (ifs : List Expr) (scope : Scope) (own : List (Str × Nat)) (wi : IW) (g : Mi.G) (wt : BW) : Prop where
  ok : BlkOk X.N X.env.scope scope own
  hi : PI X tg iter (liftI T W wi)
  hs : ∀ env x, foldedSetIterable iter env x = pure x
  hg : ∀ (s : Shared) (H : Hp) (C : Addr) (cl : List (Str × Addr)) (fp : List Addr), PG (X.blk s H scope (compEnvC scope cl C X.env) fp) tg (liftG T g.slots fun h d => gAs h g d)
  ht : ∀ (s : Shared) (H : Hp) (C : Addr) (cl : List (Str × Addr)) (fp : List Addr), PTs (X.blk s H scope (compEnvC scope cl C X.env) fp) ifs (liftB T W0 wt)
  sl : ∀ i ∈ g.slots, i ∈ own.map (·.2)
theorem eOf_ok : ∀ (n : Nat) (S : Sc) (X : Cx) (W : WX), Ck G T Z C k S X W → EOk X T W Z C (eOf G n S)
  | 0, S, X, W, c, x, e, h => by cases h
  | n + 1, S, X, W, c, x, e, h => by
    have F := eOf_ok n S X W c
    have N : ∀ x e, eOf G n S x = some e → noStar x = true := fun x e h => eOf_noStar h
    have tr : ∀ {x : Expr} {w : EW}, PE X x (liftE T W w) → (∀ whole, isTrue x X.env whole = (do let v ← whole; standAt x.pos; holding [v] (truthy v))) → PE X x (liftE T W w) ∧ PT X x (liftB T W (tst w)) := fun p he => ⟨p, mt_true c.K p he⟩
    unfold eOf at h
    split at h
    · cases h; exact tr (me_k pe_non fun _ _ => .non) fun _ => rfl
    · next b _ _ => cases h; exact tr (me_k pe_bl fun _ _ => .bl b) fun _ => rfl
    · next i _ _ => cases h; exact tr (me_k pe_int fun _ _ => .int i) fun _ => rfl
    · next s _ _ => cases h; exact tr (me_k pe_str fun _ _ => .str rfl) fun _ => rfl
    · next x p =>
      split at h
      · next i hi =>
        cases h
        obtain ⟨a, b, d, d2⟩ := slot_ok hi
        exact tr (me_v (c.at_ a) (by rw [c.sc]; exact b) d d2) fun _ => rfl
      · obtain ⟨hg0, h⟩ := itd h
        obtain ⟨hg1, hdb⟩ := glob_ok hg0
        obtain ⟨d, hd, rfl⟩ := mpd h
        obtain ⟨u, v, hm, rv, rd⟩ := c.fa.cst _ d (lookup_mem hd)
        exact tr (me_k (pe_glob (c.gl hg1) hm rv hdb) rd) fun _ => rfl
    · obtain ⟨es, he, rfl⟩ := mpd h
      exact tr (me_tup (esOf_ok F N he).1) fun _ => rfl
    · obtain ⟨es, he, rfl⟩ := mpd h
      exact tr (me_lst (esOf_ok F N he).1) fun _ => rfl
    · obtain ⟨hz, h⟩ := itd h
      obtain ⟨ps, he, rfl⟩ := mpd h
      obtain ⟨p, q⟩ := psOf_ok F he
      exact tr (me_dct p q hz) fun _ => rfl
    · obtain ⟨o, ho, h⟩ := bnd h
      obtain ⟨a, ha, h⟩ := bnd h
      obtain ⟨b, hb, rfl⟩ := mpd h
      exact tr (me_op (opOf_ok c ho) (F _ _ ha).1 (F _ _ hb).1) fun _ => rfl
    · obtain ⟨a, ha, h⟩ := bnd h
      obtain ⟨b, hb, rfl⟩ := mpd h
      exact ⟨me_cmp (cmpOf_ok c _) (F _ _ ha).1 (F _ _ hb).1 (eOf_noSet hb _), mt_cmp c.K (cmpOf_ok c _) (F _ _ ha).1 (F _ _ hb).1 (eOf_noSet hb _)⟩
    · obtain ⟨a, ha, h⟩ := bnd h
      obtain ⟨b, hb, h⟩ := bnd h
      obtain ⟨cc, hc, rfl⟩ := mpd h
      exact ⟨me_chain (cmpOf_ok c _) (cmpOf_ok c _) (F _ _ ha).1 (F _ _ hb).1 (F _ _ hc).1 (eOf_noSet hc _), mt_chain c.K (cmp_blf _) (cmpOf_ok c _) (cmpOf_ok c _) (F _ _ ha).1 (F _ _ hb).1 (F _ _ hc).1 (eOf_noSet hc _)⟩
    · obtain ⟨a, ha, rfl⟩ := mpd h
      exact ⟨me_not c.K (F _ _ ha).1, mt_not (F _ _ ha).2⟩
    · obtain ⟨a, ha, rfl⟩ := mpd h
      exact tr (me_neg (F _ _ ha).1) fun _ => rfl
    · obtain ⟨p, q⟩ := boOf_ok c.K F h
      exact ⟨p, q.pt⟩
    · obtain ⟨cc, hc, h⟩ := bnd h
      obtain ⟨a, ha, h⟩ := bnd h
      obtain ⟨b, hb, rfl⟩ := mpd h
      exact ⟨me_ite (F _ _ hc).2 (F _ _ ha).1 (F _ _ hb).1, mt_ite (F _ _ hc).2 (F _ _ ha).2 (F _ _ hb).2⟩
    · obtain ⟨hi, h⟩ := itd h
      subst hi
      obtain ⟨a, ha, rfl⟩ := mpd h
      exact tr (me_rev c.K (F _ _ ha).1) fun _ => rfl
    · obtain ⟨a, ha, h⟩ := bnd h
      obtain ⟨lo, hl, h⟩ := bnd h
      obtain ⟨hi, hh, rfl⟩ := mpd h
      exact tr (me_sl c.K (F _ _ ha).1 (eoOf_ok F hl) (eoOf_ok F hh)) fun _ => rfl
    · obtain ⟨a, ha, h⟩ := bnd h
      obtain ⟨b, hb, rfl⟩ := mpd h
      exact tr (me_ix (ix_ixS c.K c.un) (F _ _ ha).1 (F _ _ hb).1 (eOf_noSlice hb)) fun _ => rfl
    · exact tr (callOf_ok c F h) fun _ => rfl
    · obtain ⟨hc, h⟩ := itd h
      simp only [Bool.and_eq_true, decide_eq_true_eq] at hc
      obtain ⟨⟨h1, h2⟩, h3⟩ := hc
      obtain ⟨m, hm, h⟩ := bnd h
      obtain ⟨o, ho, h⟩ := bnd h
      obtain ⟨es, he, rfl⟩ := mpd h
      obtain ⟨p1, p2, p3⟩ := esOf_ok F N he
      have em := mtOf_ok hm
      subst em
      exact tr (me_mt c.K c.un (F _ _ ho).1 p1 (base_ok h2 _ _ _) h1 h3 p2 p3) fun _ => rfl
    · obtain ⟨hb, h⟩ := itd h
      obtain ⟨o, ho, rfl⟩ := mpd h
      exact tr (me_fld c.K (fun e he => c.fa.own e he) (F _ _ ho).1 (base_ok hb _ _ _)) fun _ => rfl
    · next elt tg it ifs scope p =>
      obtain ⟨hb, h⟩ := itd h
      obtain ⟨r, hr, h⟩ := bnd h
      obtain ⟨g, hg, h⟩ := bnd h
      obtain ⟨cc, hc, h⟩ := bnd h
      obtain ⟨e', he, h⟩ := bnd h
      obtain ⟨hsl, h⟩ := itd h
      cases h
      have B : BlkOk X.N X.env.scope scope (S.owns scope) := by rw [c.N, c.sc]; exact blkOk_by hb
      obtain ⟨pi, fold⟩ := irOf_ok c F hr
      have FB := fun s H Cc cl fp => eOf_ok n _ _ _ (c.blk s H scope Cc cl fp)
      have pl := pe_lc (pos := p) (elt := elt) (tg := tg) (iter := it) (ifs := ifs) c.calm c.hN pi B (fun s H Cc cl fp => (gOf_ok (c.blk s H scope Cc cl fp) hg).1) (fun s H Cc cl fp => ifOf_ok (FB s H Cc cl fp) hc) (fun s H Cc cl fp => (FB s H Cc cl fp _ _ he).1) (fold _)
      rw [cp_eq]
      exact tr (me_lk pl fun σ H Q ⟨ρ, τ, h, Qa, Qx, R, Sx, q, kk, hx⟩ => lc_of R Sx hx q kk (slots_ok hsl)) fun _ => rfl
    · next elt tg it ifs tg1 it1 ifs1 scope p =>
      obtain ⟨hb, h⟩ := itd h
      obtain ⟨r, hr, h⟩ := bnd h
      obtain ⟨g, hg, h⟩ := bnd h
      obtain ⟨cc, hc, h⟩ := bnd h
      obtain ⟨r1, hr1, h⟩ := bnd h
      obtain ⟨g1, hg1, h⟩ := bnd h
      obtain ⟨cc1, hc1, h⟩ := bnd h
      obtain ⟨e', he, h⟩ := bnd h
      obtain ⟨hsl, h⟩ := itd h
      cases h
      simp only [Bool.and_eq_true] at hsl
      have B : BlkOk X.N X.env.scope scope (S.owns scope) := by rw [c.N, c.sc]; exact blkOk_by hb
      obtain ⟨pi, fold⟩ := irOf_ok c F hr
      have FB := fun s H Cc cl fp => eOf_ok n _ _ _ (c.blk s H scope Cc cl fp)
      have pl := pe_lc2 (pos := p) (elt := elt) (tg := tg) (iter := it) (ifs := ifs) (tg1 := tg1) (iter1 := it1) (ifs1 := ifs1) (vs1 := g1.slots) c.calm c.hN pi B (slots_ok hsl.2) (fun s H Cc cl fp => (gOf_ok (c.blk s H scope Cc cl fp) hg).1) (fun s H Cc cl fp => ifOf_ok (FB s H Cc cl fp) hc)
        (fun s H Cc cl fp => (irOf_ok (c.blk s H scope Cc cl fp) (FB s H Cc cl fp) hr1).1) (fun s H Cc cl fp => (gOf_ok (c.blk s H scope Cc cl fp) hg1).1) (fun s H Cc cl fp => ifOf_ok (FB s H Cc cl fp) hc1) (fun s H Cc cl fp => (FB s H Cc cl fp _ _ he).1) (fold _) (irOf_ok (c.blk ⟨⟨#[], X.s_0.heap.life⟩, #[], X.s_0.drawn, 0, X.s_0.os⟩ X.H_0 scope 0 [] []) (FB _ _ _ _ _) hr1).2
      rw [cp2_eq]
      exact tr (PE.imp pl fun σ H Q ⟨ρ, τ, h, Qa, Qx, R, Sx, q, kk, hx⟩ => lc2_of R Sx hx q kk (slots_ok hsl.1) fun i hi => hi) fun _ => rfl
    · next kx elt tg it ifs scope p =>
      obtain ⟨hb, h⟩ := itd h
      obtain ⟨r, hr, h⟩ := bnd h
      obtain ⟨g, hg, h⟩ := bnd h
      obtain ⟨cc, hc, h⟩ := bnd h
      obtain ⟨k', hk, h⟩ := bnd h
      obtain ⟨e', he, h⟩ := bnd h
      obtain ⟨hsl, h⟩ := itd h
      cases h
      have B : BlkOk X.N X.env.scope scope (S.owns scope) := by rw [c.N, c.sc]; exact blkOk_by hb
      obtain ⟨pi, fold⟩ := irOf_ok c F hr
      have FB := fun s H Cc cl fp => eOf_ok n _ _ _ (c.blk s H scope Cc cl fp)
      have pl := pe_dc (pos := p) (kx := kx) (vx := elt) (tg := tg) (iter := it) (ifs := ifs) c.calm c.hN pi B (fun s H Cc cl fp => (gOf_ok (c.blk s H scope Cc cl fp) hg).1) (fun s H Cc cl fp => ifOf_ok (FB s H Cc cl fp) hc) (fun s H Cc cl fp => (FB s H Cc cl fp _ _ hk).1) (fun s H Cc cl fp => (FB s H Cc cl fp _ _ he).1) (fold _)
      rw [dc_eq]
      exact tr (me_lk pl fun σ H Q ⟨ρ, τ, h, Qa, Qx, R, Sx, q, kk, hx⟩ => dc_of R Sx hx q kk (slots_ok hsl)) fun _ => rfl
    · cases h
end
end Mi

set_option Elab.async false
set_option linter.all false
set_option maxRecDepth 100000
set_option maxHeartbeats 4000000
/-! Mi: statements of the program as statements of Mi, and that this is sound. -/
namespace Mi
open PySem PySem.Spec PyProof.Rows L2

def isCompE : Expr → Bool
  | .ListComp .. => true
  | .SetComp .. => true
  | .DictComp .. => true
  | _ => false
/-- the store is exchanged: a comprehension on the line of its one local target -/
def swB (S : Sc) (y : Str) (py p : Pos) (scope : Scope) : Bool := decide (S.sc.names.lookup y = some .local) && (py.line == p.line) && !(scope.names.any fun (n, k) => n == y && (k == .local || k == .cell))
def augOf : Operator → Option Op2
  | .Add => some .add
  | .Sub => some .sub
  | _ => none
def asOf (G : Gi) (S : Sc) (n : Nat) (tg e : Expr) : Option Mi.S := match tg with
  | .Name y _ => (eOf G n S e).bind fun c => (S.sto y).map fun i => .asg (.n i) c
  | .Subscript o i _ => if isCompE e then none else (eOf G n S e).bind fun e => (eOf G n S o).bind fun o => (eOf G n S i).map fun i => .sub o i e
  | .Tuple ts kt pt => if isCompE e then none else match e with
    | .Tuple vs _ _ => match ts, vs with
      | [.Name x px, .Name y py], [a, b] =>
        if decide (x ≠ y) && decide (S.sc.names.lookup x = some .local) && decide (S.sc.names.lookup y = some .local) && (py.line == px.line) && !([a, b].all (foldedForSure 8)) && !([a, b].all (constantsAlone 8)) then
          (S.ix x).bind fun i => (S.ix y).bind fun j => (eOf G n S a).bind fun a => (eOf G n S b).map fun b => .par i j a b
        else none
      | _, _ => none
    | _ => (eOf G n S e).bind fun e => (gOf S n (.Tuple ts kt pt)).map fun g => .asg g e
  | _ => none
mutual
def sOf (G : Gi) (S : Sc) : Nat → Stmt → Option Mi.S
  | 0, _ => none
  | n + 1, .Expr (.Constant (.str _) _ _) _ => some .pas
  | n + 1, .Expr e _ => if isCompE e then none else (eOf G n S e).map .ex
  | n + 1, .Return (some e) _ => (eOf G n S e).map .ret
  | n + 1, .Return none _ => some .retN
  | n + 1, .If c a b _ => (eOf G n S c).bind fun c => (ssOf G S n a).bind fun a => (ssOf G S n b).map fun b => .ite c a b
  | n + 1, .While c b [] _ => (eOf G n S c).bind fun c => (ssOf G S n b).map fun b => .whl c b
  | n + 1, .For tg it b [] _ => (irOf G S (eOf G n S) tg it).bind fun r => (gOf S n tg).bind fun g => (ssOf G S n b).map fun b => .loop g r b
  | n + 1, .Break _ => some .brk
  | n + 1, .Continue _ => some .cnt
  | n + 1, .Pass _ => some .pas
  | n + 1, .Raise (some (.Call (.Name x _) args [] _)) none _ => if S.glob x then (G.xcs.lookup x).bind fun c => (esOf (eOf G n S) args).map fun es => .rse c es else none
  | n + 1, .AugAssign (.Name x _) op e _ => (S.sto x).bind fun i => (augOf op).bind fun o => (eOf G n S e).map fun e => .aug i o e
  | n + 1, .Try body [.ExceptHandler (some (.Name x _)) (some nm) [.Assign [.Name m _] (.Name nm' _) _] _] [] [] _ =>
    if nm = nm' ∧ S.sc.names.lookup nm = some .local ∧ S.glob x = true then (G.cls.lookup x).bind fun c => (S.ix nm).bind fun i => (S.sto m).bind fun j => (ssOf G S n body).map fun b => .tryAs b c i j else none
  | n + 1, .Assign [tg] e _ => asOf G S n tg e
  | _, _ => none
def ssOf (G : Gi) (S : Sc) : Nat → List Stmt → Option Ss
  | 0, _ => none
  | n + 1, [] => some .nil
  | n + 1, a :: r => (sOf G S n a).bind fun a => (ssOf G S n r).map fun r => .cons a r
end
structure Cs (G : Gi) (T : Tab) (Z : Zi) (C : Cal) (k : Nat) (S : Sc) (X : Cx) (W : WX) : Prop extends Ck G T Z C k S X W where
  hs : X.stack = X.env :: X.outer
  hf : X.env.frame = some X.env.locals
  ex : X.ex = []
  po : PassesOwn (model X.prog X.w) X.A X.env X.xe
  kind : S.sc.kind = .function
section
variable {X : Cx} {T : Tab} {W : WX} {Z : Zi} {C : Cal} {G : Gi} {k : Nat} {S : Sc}
theorem Cs.tr (c : Cs G T Z C k S X W) {W' : WX} (pn : List (Addr × Obj)) (xe : Value → Shared → Prop) (tk : Takes (X.tr pn xe) W') (po : PassesOwn (model X.prog X.w) X.A X.env xe) : Cs G T Z C k S (X.tr pn xe) W' where
  N := c.N
  nd := c.nd
  sc := c.sc
  fn := c.fn
  K := c.K
  calm := c.calm
  room := c.room
  k3 := c.k3
  tk := tk
  fa := c.fa
  hs := c.hs
  hf := c.hf
  ex := c.ex
  po := po
  kind := c.kind
theorem sw_none {e : Expr} {l : Nat} {env : Env} (h : isCompE e = false) (t : Option Expr) : swapsWith e t l env = pure false := by
  cases e <;> first | rfl | cases h
theorem sw_sole {e t : Expr} {l : Nat} {env : Env} (h : isCompE e = false) : swapsWithSole [t] e l env = pure false := sw_none h (some t)
theorem bk_fun {env : Env} (hk : env.scope.kind = .function) : env.blockKind = .function := by unfold Env.blockKind; rw [hk]; rfl
theorem sw_lc {elt : Expr} {gs : List Comprehension} {scope : Scope} {pos py : Pos} {y : Str} {l : Nat} {env : Env} (hk : env.scope.kind = .function) :
    swapsWith (.ListComp elt gs scope pos) (some (.Name y py)) l env = pure (decide (env.scope.names.lookup y = some .local) && (py.line == pos.line) && !(scope.names.any fun (n, k) => n == y && (k == .local || k == .cell))) := by
  have hb := bk_fun hk
  have hd : decide (env.scope.names.lookup y = some .local) = (env.kindOf y == some .local) := by
    show decide (env.kindOf y = some .local) = (env.kindOf y == some .local)
    rw [Bool.eq_iff_iff, decide_eq_true_eq, beq_iff_eq]
  rw [hd]
  unfold swapsWith
  simp only [hb, Expr.pos]
  rfl
theorem sw_dc {kx elt : Expr} {gs : List Comprehension} {scope : Scope} {pos py : Pos} {y : Str} {l : Nat} {env : Env} (hk : env.scope.kind = .function) :
    swapsWith (.DictComp kx elt gs scope pos) (some (.Name y py)) l env = pure (decide (env.scope.names.lookup y = some .local) && (py.line == pos.line) && !(scope.names.any fun (n, k) => n == y && (k == .local || k == .cell))) := by
  have hb := bk_fun hk
  have hd : decide (env.scope.names.lookup y = some .local) = (env.kindOf y == some .local) := by
    show decide (env.kindOf y = some .local) = (env.kindOf y == some .local)
    rw [Bool.eq_iff_iff, decide_eq_true_eq, beq_iff_eq]
  rw [hd]
  unfold swapsWith
  simp only [hb, Expr.pos]
  rfl
theorem sw_two {a b : Expr} {x y : Str} {px py pt pt2 : Pos} {kt k2 : Nat} {env : Env} (hk : env.scope.kind = .function) (hx : env.scope.names.lookup x = some .local) (hy : env.scope.names.lookup y = some .local) (hl : (py.line == px.line) = true) (hne : x ≠ y) (ha : noStar a = true) (hb : noStar b = true)
    (hf : ([a, b].all (foldedForSure 8)) = false) (hc : ([a, b].all (constantsAlone 8)) = false) : swappedStores [.Tuple [.Name x px, .Name y py] kt pt] (.Tuple [a, b] k2 pt2) env = pure (some [x, y]) := by
  have hbk := bk_fun hk
  have ex : env.kindOf x = some .local := hx
  have ey : env.kindOf y = some .local := hy
  have hst : ([a, b].any fun e => match e with | .Starred .. => true | _ => false) = false := by
    cases a <;> first | (cases b <;> first | rfl | (cases hb; done)) | (cases ha; done)
  have hne' : (x == y) = false := beq_eq_false_iff_ne.mpr hne
  have hne2 : (y == x) = false := beq_eq_false_iff_ne.mpr (Ne.symm hne)
  unfold swappedStores
  simp only [hst, hf, hc, hbk, ex, ey, hl, List.length_cons, List.length_nil, List.filterMap_cons, List.filterMap_nil, List.head?, Option.map, Expr.pos, beq_self_eq_true, Bool.and_self, List.eraseDups_cons, List.filter_cons, List.filter_nil, List.eraseDups_nil, hne', hne2, Option.getD, bne_self_eq_false, Bool.or_false, Bool.true_or, Bool.not_true, Bool.not_false, Bool.and_true, if_true, if_false, Bool.false_eq_true]
  exact if_neg fun q => Bool.false_ne_true (hst.symm.trans q)
end
end Mi

set_option Elab.async false
set_option linter.all false
set_option maxRecDepth 100000
set_option maxHeartbeats 4000000
/-! Mi: statements are sound. -/
namespace L2
open PySem PySem.Spec PyProof.Rows
/-- name = {..} on one line, the name a local -/
theorem ps_setDc {X : Cx} {i : Nat} {y : Str} {py : Pos} {kx vx tg iter : Expr} {ifs : List Expr} {scope : Scope} {own : List (Str × Nat)} {pos spos : Pos} {wi : TI} {g : TG} {tt : TT} {tk tv : TE} (hc : X.calm = true) (hN : X.N.Nodup) (hy : X.N[i]? = some y) (hyl : X.env.scope.names.lookup y = some .local)
    (hsw : swapsWith (.DictComp kx vx [⟨tg, iter, ifs, 0⟩] scope pos) (some (.Name y py)) spos.line X.env = pure true) (hi : PI X tg iter wi) (ok : BlkOk X.N X.env.scope scope own)
    (hg : ∀ (s : Shared) (H : Hp) (C : Addr) (cl : List (Str × Addr)) (fp : List Addr), PG (X.blk s H scope (compEnvC scope cl C X.env) fp) tg g) (ht : ∀ (s : Shared) (H : Hp) (C : Addr) (cl : List (Str × Addr)) (fp : List Addr), PTs (X.blk s H scope (compEnvC scope cl C X.env) fp) ifs tt)
    (hk : ∀ (s : Shared) (H : Hp) (C : Addr) (cl : List (Str × Addr)) (fp : List Addr), PE (X.blk s H scope (compEnvC scope cl C X.env) fp) kx tk)
    (he : ∀ (s : Shared) (H : Hp) (C : Addr) (cl : List (Str × Addr)) (fp : List Addr), PE (X.blk s H scope (compEnvC scope cl C X.env) fp) vx tv) (hs : ∀ x, foldedSetIterable iter X.env x = pure x) :
    PS X (.Assign [.Name y py] (.DictComp kx vx [⟨tg, iter, ifs, 0⟩] scope pos) spos) (tAsg (tDc wi g tt tk tv (own.map (·.2))) (gName i)) := by
  refine ⟨fun pins s σ H D I h => ?_⟩
  rw [exec_Assign_Name_used _ _ _ _ hsw]
  refine wpAny_bind (wpAny_standAt (wpAny_bind ?_))
  show wpAny _ X.A (do let _ ← comprehension (.DictComp kx vx [⟨tg, iter, ifs, 0⟩] scope pos) scope X.env (firstIterPos [⟨tg, iter, ifs, 0⟩] pos) newDict false (eval iter X.env) (some (assign (.Name y py) X.env))) _ _ s
  have h : tDc wi g tt tk tv (own.map (·.2)) σ H (fun x H1 => gName i x σ H1 D.nx) := h
  refine wpAny_bind (thn (dc_core (Qf := fun _ s' => SP X pins D .next s') hc hN I hi ok hg ht hk he hs h fun L C s' m H' I' q hn f => ?_) fun _ s' hq => wpAny_pure (wpAny_pure hq))
  show wpAny _ _ (assign (.Name y py) X.env (.ref L)) _ _ _
  refine wpAny_assign_Name (store_ok2 (v := V.ref L) I' hN hy (.inl hyl) rfl (fun s2 I2 ⟨a, sb, ha⟩ => ?_) (.inr hyl))
  obtain ⟨f0, f1, f2, f3, f4, f5⟩ := f
  have haC : C ≠ a := by
    rcases ha with z | z
    · rw [z]; exact f1
    · exact fun e => f4 y a z e.symm
  exact ⟨m, hn.sameBut sb haC, fun h3 sb3 => ⟨_, H', I2.turned (t' := s2.toks) (fun b o hb e => (sb3.2 b hb).trans e) f0 f1 f3 f4 f5, q⟩⟩
end L2
namespace Mi
open PySem PySem.Spec PyProof.Rows L2
section
variable {T : Tab} {Z : Zi} {C : Cal} {G : Gi} {k : Nat}
theorem augOf_ok {X : Cx} {op : Operator} {o : Op2} (h : augOf op = some o) : ∃ f, PIp X op (ipI f) ∧ ∀ x y k, augP o x y k → ∃ a b, x = .int a ∧ y = .int b ∧ k (.int (f a b)) := by
  cases op <;> cases h
  · refine ⟨_, ip_add, fun x y k q => ?_⟩
    cases x <;> first | exact q.elim | skip
    cases y <;> first | exact q.elim | skip
    exact ⟨_, _, rfl, rfl, q⟩
  · refine ⟨_, ip_sub, fun x y k q => ?_⟩
    cases x <;> first | exact q.elim | skip
    cases y <;> first | exact q.elim | skip
    exact ⟨_, _, rfl, rfl, q⟩
theorem sto_pg {X : Cx} {W : WX} {S : Sc} (c : Ck G T Z C k S X W) {y : Str} {i : Nat} {py : Pos} (h : S.sto y = some i) : PG X (.Name y py) (liftG T (Mi.G.n i).slots fun h d => gAs h (.n i) d) := by
  obtain ⟨a, b, d⟩ := sto_ok h
  refine mg_n c.hN (c.at_ a) (by rw [c.sc]; exact b) ?_
  rcases d with d | d
  · exact .inl (c.fn _ d)
  · exact .inr (by rw [c.sc]; exact d)
/-- a comprehension, as a value and stored on its line -/
theorem comp_ok {X : Cx} {W : WX} {S : Sc} (c : Ck G T Z C k S X W) {n : Nat} {x : Expr} {ec : E} (hx : isCompE x = true) (h : eOf G n S x = some ec) :
    ∃ (t : TE) (r : Ir) (w : EW), (∀ y py i (spos : Pos), swapsWith x (some (.Name y py)) spos.line X.env = pure true → X.N[i]? = some y → X.env.scope.names.lookup y = some .local → PS X (.Assign [.Name y py] x spos) (tAsg t (gName i))) ∧ wE Z C ec = wLk r w ∧ ∀ σ H Q, liftE T W w σ H Q → t σ H Q := by
  cases n with
  | zero => cases h
  | succ n =>
    have F := eOf_ok n S X W c
    unfold eOf at h
    split at h
    all_goals first | (cases hx; done) | skip
    · next elt tg it ifs scope p =>
      obtain ⟨hb, h⟩ := itd h
      obtain ⟨r, hr, h⟩ := bnd h
      obtain ⟨g, hg, h⟩ := bnd h
      obtain ⟨cc, hc, h⟩ := bnd h
      obtain ⟨e', he, h⟩ := bnd h
      obtain ⟨hsl, h⟩ := itd h
      cases h
      have B : BlkOk X.N X.env.scope scope (S.owns scope) := by rw [c.N, c.sc]; exact blkOk_by hb
      obtain ⟨pi, fold⟩ := irOf_ok c F hr
      have FB := fun s H Cc cl fp => eOf_ok n _ _ _ (c.blk s H scope Cc cl fp)
      refine ⟨_, r, _, fun y py i spos hsw hy hyl => ps_setLc c.calm c.hN hy hyl hsw pi B (fun s H Cc cl fp => (gOf_ok (c.blk s H scope Cc cl fp) hg).1) (fun s H Cc cl fp => ifOf_ok (FB s H Cc cl fp) hc) (fun s H Cc cl fp => (FB s H Cc cl fp _ _ he).1) (fold _), cp_eq _ _ _ _ _ _, fun σ H Q ⟨ρ, τ, h, Qa, Qx, R, Sx, q, kk, hx⟩ => lc_of R Sx hx q kk (slots_ok hsl)⟩
    · next elt tg it ifs tg1 it1 ifs1 scope p =>
      obtain ⟨hb, h⟩ := itd h
      obtain ⟨r, hr, h⟩ := bnd h
      obtain ⟨g, hg, h⟩ := bnd h
      obtain ⟨cc, hc, h⟩ := bnd h
      obtain ⟨r1, hr1, h⟩ := bnd h
      obtain ⟨g1, hg1, h⟩ := bnd h
      obtain ⟨cc1, hc1, h⟩ := bnd h
      obtain ⟨e', he, h⟩ := bnd h
      obtain ⟨hsl, h⟩ := itd h
      cases h
      simp only [Bool.and_eq_true] at hsl
      have B : BlkOk X.N X.env.scope scope (S.owns scope) := by rw [c.N, c.sc]; exact blkOk_by hb
      obtain ⟨pi, fold⟩ := irOf_ok c F hr
      have FB := fun s H Cc cl fp => eOf_ok n _ _ _ (c.blk s H scope Cc cl fp)
      refine ⟨_, .r1 (.k .non), _, fun y py i spos hsw hy hyl => ps_setLc2 (vs1 := g1.slots) c.calm c.hN hy hyl hsw pi B (slots_ok hsl.2) (fun s H Cc cl fp => (gOf_ok (c.blk s H scope Cc cl fp) hg).1) (fun s H Cc cl fp => ifOf_ok (FB s H Cc cl fp) hc)
        (fun s H Cc cl fp => (irOf_ok (c.blk s H scope Cc cl fp) (FB s H Cc cl fp) hr1).1) (fun s H Cc cl fp => (gOf_ok (c.blk s H scope Cc cl fp) hg1).1) (fun s H Cc cl fp => ifOf_ok (FB s H Cc cl fp) hc1) (fun s H Cc cl fp => (FB s H Cc cl fp _ _ he).1) (fold _) (irOf_ok (c.blk ⟨⟨#[], X.s_0.heap.life⟩, #[], X.s_0.drawn, 0, X.s_0.os⟩ X.H_0 scope 0 [] []) (FB _ _ _ _ _) hr1).2,
        (cp2_eq _ _ _ _ _ _ _ _ _ _).trans (by funext Q Qx τ h; rfl), fun σ H Q ⟨ρ, τ, h, Qa, Qx, R, Sx, q, kk, hx⟩ => lc2_of R Sx hx q kk (slots_ok hsl.1) fun i hi => hi⟩
    · next kx elt tg it ifs scope p =>
      obtain ⟨hb, h⟩ := itd h
      obtain ⟨r, hr, h⟩ := bnd h
      obtain ⟨g, hg, h⟩ := bnd h
      obtain ⟨cc, hc, h⟩ := bnd h
      obtain ⟨k', hk, h⟩ := bnd h
      obtain ⟨e', he, h⟩ := bnd h
      obtain ⟨hsl, h⟩ := itd h
      cases h
      have B : BlkOk X.N X.env.scope scope (S.owns scope) := by rw [c.N, c.sc]; exact blkOk_by hb
      obtain ⟨pi, fold⟩ := irOf_ok c F hr
      have FB := fun s H Cc cl fp => eOf_ok n _ _ _ (c.blk s H scope Cc cl fp)
      refine ⟨_, r, _, fun y py i spos hsw hy hyl => ps_setDc c.calm c.hN hy hyl hsw pi B (fun s H Cc cl fp => (gOf_ok (c.blk s H scope Cc cl fp) hg).1) (fun s H Cc cl fp => ifOf_ok (FB s H Cc cl fp) hc) (fun s H Cc cl fp => (FB s H Cc cl fp _ _ hk).1) (fun s H Cc cl fp => (FB s H Cc cl fp _ _ he).1) (fold _), dc_eq _ _ _ _ _ _ _, fun σ H Q ⟨ρ, τ, h, Qa, Qx, R, Sx, q, kk, hx⟩ => dc_of R Sx hx q kk (slots_ok hsl)⟩
    all_goals cases h
theorem asOf_ok {X : Cx} {W : WX} {S : Sc} (c : Cs G T Z C k S X W) {n : Nat} {tg e : Expr} {s : Mi.S} {pos : Pos} (h : asOf G S n tg e = some s) : PS X (.Assign [tg] e pos) (liftS T W (wS Z C s)) := by
  have F := eOf_ok n S X W c.toCk
  have hk : X.env.scope.kind = .function := by rw [c.sc]; exact c.kind
  unfold asOf at h
  split at h
  · next y py =>
    obtain ⟨ec, he, h⟩ := bnd h
    obtain ⟨i, hi, rfl⟩ := mpd h
    have p := (F _ _ he).1
    have hg := sto_pg c.toCk (py := py) hi
    have hyN : X.N[i]? = some y := c.at_ (sto_ok hi).1
    by_cases hx : isCompE e = true
    · obtain ⟨t, r, w, hps, hw, hj⟩ := comp_ok c.toCk hx he
      have dich : swapsWith e (some (.Name y py)) pos.line X.env = pure false ∨ (swapsWith e (some (.Name y py)) pos.line X.env = pure true ∧ X.env.scope.names.lookup y = some .local) := by
        cases e with
        | ListComp elt gens scope p0 =>
          rw [sw_lc hk]
          cases hb : (decide (X.env.scope.names.lookup y = some .local) && (py.line == p0.line) && !(scope.names.any fun (n, k) => n == y && (k == .local || k == .cell))) with
          | false => exact .inl rfl
          | true => exact .inr ⟨rfl, by simp only [Bool.and_eq_true, decide_eq_true_eq] at hb; exact hb.1.1⟩
        | DictComp kx elt gens scope p0 =>
          rw [sw_dc hk]
          cases hb : (decide (X.env.scope.names.lookup y = some .local) && (py.line == p0.line) && !(scope.names.any fun (n, k) => n == y && (k == .local || k == .cell))) with
          | false => exact .inl rfl
          | true => exact .inr ⟨rfl, by simp only [Bool.and_eq_true, decide_eq_true_eq] at hb; exact hb.1.1⟩
        | SetComp => cases n <;> cases he
        | _ => cases hx
      rcases dich with d | ⟨d, hyl⟩
      · exact ms_asg p hg d (by cases e <;> first | rfl | cases hx) rfl
      · have q := ms_asgC (T := T) (W := W) (r := r) (hps y py i pos d hyN hyl) hj
        refine PS.imp q fun D σ H h => ?_
        have e0 : wS Z C (.asg (.n i) ec) = fun D τ h => wLk r w (fun d h1 => wG (.n i) d D.nx τ h1) (D.px τ) τ h := by
          rw [← hw]; rfl
        rw [e0] at h
        exact h
    · have hx' : isCompE e = false := by simpa using hx
      exact ms_asg p hg (sw_sole hx') (by cases e <;> rfl) rfl
  · next o i p2 =>
    by_cases hx : isCompE e = true
    · rw [if_pos hx] at h; cases h
    · rw [if_neg hx] at h
      have hx' : isCompE e = false := by simpa using hx
      obtain ⟨e', he, h⟩ := bnd h
      obtain ⟨o', ho, h⟩ := bnd h
      obtain ⟨i', hi, rfl⟩ := mpd h
      refine ms_sub c.un (F _ _ he).1 (F _ _ ho).1 (F _ _ hi).1 (sw_sole hx') (by cases e <;> rfl) fun v => ?_
      have ns := eOf_noSlice hi
      cases i <;> first | rfl | (cases n <;> cases hi)
  · next ts kt pt =>
    by_cases hx : isCompE e = true
    · rw [if_pos hx] at h; cases h
    · rw [if_neg hx] at h
      have hx' : isCompE e = false := by simpa using hx
      split at h
      · next vs k2 pt2 =>
        split at h
        · next x px y py a b =>
          obtain ⟨hc, h⟩ := itd h
          simp only [Bool.and_eq_true, decide_eq_true_eq, Bool.not_eq_true'] at hc
          obtain ⟨⟨⟨⟨⟨h1, h2⟩, h3⟩, h4⟩, h5⟩, h6⟩ := hc
          obtain ⟨i, hi, h⟩ := bnd h
          obtain ⟨j, hj, h⟩ := bnd h
          obtain ⟨a', ha, h⟩ := bnd h
          obtain ⟨b', hb, rfl⟩ := mpd h
          have ei := (ix_ok hi).1
          have ej := (ix_ok hj).1
          have hij : i ≠ j := fun e => h1 (Option.some.inj (by rw [← ei, ← ej, e]))
          have hx2 : X.env.scope.names.lookup x = some .local := by rw [c.sc]; exact h2
          have hy2 : X.env.scope.names.lookup y = some .local := by rw [c.sc]; exact h3
          exact ms_par c.calm c.hN (c.at_ ei) (c.at_ ej) hij hx2 hy2 (F _ _ ha).1 (F _ _ hb).1 (eOf_noStar ha) (eOf_noStar hb) (sw_two hk hx2 hy2 h4 h1 (eOf_noStar ha) (eOf_noStar hb) h5 h6)
        · cases h
      · next hnt =>
        obtain ⟨e', he, h⟩ := bnd h
        obtain ⟨g, hg, rfl⟩ := mpd h
        exact ms_asg (F _ _ he).1 (gOf_ok c.toCk hg).1 (sw_sole hx') (by cases e <;> first | rfl | exact absurd rfl (hnt _ _ _)) rfl
  · cases h
end
end Mi

set_option Elab.async false
set_option linter.all false
set_option maxRecDepth 100000
set_option maxHeartbeats 4000000
/-! Mi: statements are sound, together; defs; a law. -/
namespace Mi
open PySem PySem.Spec PyProof.Rows L2
section
variable {T : Tab} {Z : Zi} {C : Cal} {G : Gi} {k : Nat}
abbrev SOk (T : Tab) (Z : Zi) (C : Cal) (G : Gi) (k : Nat) (S : Sc) (n : Nat) : Prop := ∀ (X : Cx) (W : WX), Cs G T Z C k S X W → (∀ st s, sOf G S n st = some s → PS X st (liftS T W (wS Z C s))) ∧ ∀ ss s, ssOf G S n ss = some s → PSs X ss (liftS T W (wSs Z C s))
theorem loop_eq (C : Cal) (g : Mi.G) (r : Ir) (b : Ss) : wS Z C (.loop g r b) = wLkS r (wFor (wI Z C r) g (wSs Z C b)) := by
  funext D τ h; rfl
theorem sOf_step {S : Sc} {n : Nat} (ih : SOk T Z C G k S n) (X : Cx) (W : WX) (c : Cs G T Z C k S X W) (st : Stmt) (s : Mi.S) (h : sOf G S (n + 1) st = some s) : PS X st (liftS T W (wS Z C s)) := by
  have F := eOf_ok n S X W c.toCk
  have N : ∀ x e, eOf G n S x = some e → noStar x = true := fun x e h => eOf_noStar h
  have B := (ih X W c).2
  unfold sOf at h
  split at h
  · next h0 => cases h0
  · next h0 => cases h0; cases h; exact ms_doc
  · next h0 =>
    cases h0
    split at h
    · cases h
    · next hx =>
      obtain ⟨e', he, rfl⟩ := mpd h
      exact ms_ex (F _ _ he).1 (sw_none (by simpa using hx) none)
  · next h0 => cases h0; obtain ⟨e', he, rfl⟩ := mpd h; exact ms_ret (F _ _ he).1
  · next h0 => cases h0; cases h; exact ms_retN
  · next h0 =>
    cases h0
    obtain ⟨c', hc, h⟩ := bnd h
    obtain ⟨a', ha, h⟩ := bnd h
    obtain ⟨b', hb, rfl⟩ := mpd h
    exact ms_if (F _ _ hc).2 (B _ _ ha) (B _ _ hb)
  · next h0 =>
    cases h0
    obtain ⟨c', hc, h⟩ := bnd h
    obtain ⟨b', hb, rfl⟩ := mpd h
    exact ms_while c.po (F _ _ hc).2 (B _ _ hb)
  · next h0 =>
    cases h0
    obtain ⟨r, hr, h⟩ := bnd h
    obtain ⟨g, hg, h⟩ := bnd h
    obtain ⟨b', hb, rfl⟩ := mpd h
    obtain ⟨pi, fold⟩ := irOf_ok c.toCk F hr
    rw [loop_eq]
    exact ms_lk (ps_for c.po c.calm pi (gOf_ok c.toCk hg).1 (B _ _ hb) (fold _)) for_of
  · next h0 => cases h0; cases h; exact ms_brk
  · next h0 => cases h0; cases h; exact ms_cnt
  · next h0 => cases h0; cases h; exact ms_pas
  · next h0 =>
    cases h0
    obtain ⟨hg0, h⟩ := itd h
    obtain ⟨hg1, hdb⟩ := glob_ok hg0
    have hg := c.gl hg1
    obtain ⟨cc, hf, h⟩ := bnd h
    obtain ⟨es, he, rfl⟩ := mpd h
    obtain ⟨p1, p2, p3⟩ := esOf_ok F N he
    obtain ⟨hm, hk, s1, s2, mk⟩ := c.fa.xcs _ cc (lookup_mem hf)
    have r : Raises X (.ref (T.xa cc)) := raises_own (by rw [c.K]; exact s1) (by rw [c.K]; exact s2)
    cases mk with
    | plain Fx q m => exact ms_rse c.calm c.tk (mm_plain Fx (by rw [c.K]; exact q) m hm (by rw [c.K]; exact hk) r hg p1 hdb p2 p3)
    | own O iC tI F1 hk2 hb m => exact ms_rse c.calm c.tk (mm_own (by rw [c.K]; exact O) (by rw [c.K]; exact iC) (by rw [c.K]; exact tI) (by rw [c.K]; exact F1) (c.room.mono (by have := c.k3; omega)) (by rw [c.K]; exact hb) m hg hm p1 hdb p2 p3)
  · next h0 =>
    cases h0
    obtain ⟨i, hi, h⟩ := bnd h
    obtain ⟨o, ho, h⟩ := bnd h
    obtain ⟨e', he, rfl⟩ := mpd h
    obtain ⟨a, b, d⟩ := sto_ok hi
    obtain ⟨f, pf, hp⟩ := augOf_ok (X := X) ho
    refine ms_aug c.hN (c.at_ a) (by rw [c.sc]; exact b) (F _ _ he).1 pf ?_ hp
    rcases d with d | d
    · exact .inl (c.fn _ d)
    · exact .inr (by rw [c.sc]; exact d)
  · next h0 =>
    cases h0
    obtain ⟨⟨e1, e2, e3⟩, h2⟩ := itd h
    clear h
    subst e1
    have h := h2
    clear h2
    obtain ⟨hg1, hdb⟩ := glob_ok e3
    obtain ⟨cc, hcl, h⟩ := bnd h
    obtain ⟨i, hi, h⟩ := bnd h
    obtain ⟨j, hj, h⟩ := bnd h
    obtain ⟨b', hb, rfl⟩ := mpd h
    obtain ⟨cv, v, hname, rv, uniq, hN, hE⟩ := c.fa.cls _ cc (lookup_mem hcl)
    obtain ⟨i1, i2, i3⟩ := ix_ok hi
    obtain ⟨a, b, d⟩ := sto_ok hj
    refine ms_try c.K c.hs c.hf c.hN (c.at_ i1) ?_ (c.at_ a) (by rw [c.sc]; exact b) ?_ i2 i3 ⟨c.gl hg1, hdb, hname⟩ c.tk c.ex (fun e he => (hE e he).2) fun W' pn xe tk po => (ih _ _ (c.tr pn xe tk po)).2 _ _ hb
    · show X.env.scope.names.lookup _ = _
      rw [c.sc]; exact e2
    · rcases d with d | d
      · exact .inl (c.fn _ d)
      · exact .inr (by rw [c.sc]; exact d)
  · next h0 => cases h0; exact asOf_ok c h
  · cases h
theorem sOf_ok (S : Sc) : ∀ n, SOk T Z C G k S n
  | 0 => fun X W c => ⟨fun st s h => (by unfold sOf at h; cases h), fun ss s h => (by unfold ssOf at h; cases h)⟩
  | n + 1 => fun X W c => by
    have ih := sOf_ok S n
    refine ⟨sOf_step ih X W c, fun ss s h => ?_⟩
    cases ss with
    | nil => cases h; exact mss_nil
    | cons a r =>
      unfold ssOf at h
      obtain ⟨a', ha, h⟩ := bnd h
      obtain ⟨r', hr, rfl⟩ := mpd h
      have q := mss_cons ((ih X W c).1 _ _ ha) ((ih X W c).2 _ _ hr)
      exact q
end
end Mi

set_option Elab.async false
set_option linter.all false
set_option maxRecDepth 100000
set_option maxHeartbeats 4000000
/-! Mi: defs by depth; the head's facts; a law. -/
namespace Mi
open PySem PySem.Spec PyProof.Rows L2

/-- a def of Mi: its parameters, all its names, its body -/
structure Fd where
  np : Nat
  nn : Nat
  body : Ss
/-- what must hold ahead of a call of the f-th def, so many calls deep -/
def WPc (Z : Zi) (B : List Fd) : Nat → Cal
  | 0, _, _, _, _, _ => False
  | n + 1, f, ds, h, Q, Qx => match B[f]? with
    | some b => ds.length = b.np ∧ wSs Z (WPc Z B n) b.body { nx := fun _ h => Q .non h, rt := Q, bk := fun _ _ => False, ct := fun _ _ => False, ex := fun c fs _ h => Qx c fs h } (ds.map some ++ List.replicate (b.nn - ds.length) none) h
    | none => False
theorem WPc_len {Z : Zi} {B : List Fd} {n f : Nat} {ds : List D} {h : Hh} {Q : PQ} {Qx : PX} (w : WPc Z B n f ds h Q Qx) : ∃ b, B[f]? = some b ∧ ds.length = b.np := by
  cases n with
  | zero => exact w.elim
  | succ n =>
    unfold WPc at w
    split at w
    · next b e => exact ⟨b, e, w.1⟩
    · exact w.elim
theorem RelS.start {T : Tab} {ρ : List Addr} {H : Hp} {ds : List D} {vs : List V} (r : RelDs T ρ H ds vs) (n : Nat) : RelS T ρ H (ds.map some ++ List.replicate n none) (vs.map some ++ List.replicate n none) := by
  refine ⟨by simp [r.length], fun i d e => ?_⟩
  by_cases hi : i < ds.length
  · rw [List.getElem?_append_left (by simpa using hi), List.getElem?_map] at e
    rw [List.getElem?_append_left (by rw [List.length_map, ← r.length]; exact hi), List.getElem?_map]
    cases ed : ds[i]? with
    | none => rw [ed] at e; cases e
    | some d' =>
      rw [ed] at e
      cases e
      obtain ⟨v, ev, rv⟩ := r.get ed
      exact ⟨v, by rw [ev]; rfl, rv⟩
  · rw [List.getElem?_append_right (by simpa using hi), List.getElem?_replicate] at e
    split at e <;> cases e
theorem spF_false {T : Tab} {n : Nat} {c : List D → Hh → PQ → PX → Prop} (hc : ∀ ds h Q Qx, ¬ c ds h Q Qx) {vs : List V} {H : Hp} {Q : VK} {E : XK} (s : spF T n c vs H Q E) : False := by
  obtain ⟨_, ρ, h, ds, Qa, Qx, _, _, q, _⟩ := s
  exact hc _ _ _ _ q
section
variable {T : Tab} {Z : Zi} {G : Gi} {B : List Fd} {P : Program} {w : World} {mg : Str → Option Value} {base : Heap}
/-- a def's body, one deeper -/
theorem fn_deep {n k f : Nat} {x qual : Str} {params : Arguments} {body : List Stmt} {scope : Scope} {fa : Addr} {fd : FuncData} {N ps : List Str} {b : Fd} (k3 : 3 ≤ k) (F : FunD T.K x qual params body scope [] [] fa fd) (S : FnScope N ps scope) (hb : B[f]? = some b) (hnp : b.np = ps.length) (hnn : b.nn = N.length)
    {m : Nat} (txt : ssOf G ⟨N, scope, true, scope⟩ m body = some b.body) (fac : Facts G T Z (WPc Z B n) P w mg base k) : FnOk P w T.K mg base (L2.CX P w) (k + 1) fa fd ps (spF T ps.length (WPc Z B (n + 1) f)) := by
  refine F.ok S (fun vs H Q E h => h.1) fun cdv A outer s H vs Q E hr h => ?_
  obtain ⟨hl, ρ, hh, ds, Qa, Qx, R, rs, q, k1, k2⟩ := h
  unfold WPc at q
  rw [hb] at q
  obtain ⟨hds, q⟩ := q
  have c : Cs G T Z (WPc Z B n) k ⟨N, scope, true, scope⟩ (cxOf (L2.CX P w) P w T.K mg base N qual scope fa cdv A outer s H E) (fun cls d _ H => E cls d H) := {
    N := rfl
    nd := S.nd
    sc := rfl
    fn := fun _ _ => rfl
    K := rfl
    calm := rfl
    room := hr
    k3 := k3
    tk := takes_of (X := cxOf (L2.CX P w) P w T.K mg base N qual scope fa cdv A outer s H E) rfl rfl rfl rfl
    fa := fac
    hs := rfl
    hf := rfl
    ex := rfl
    po := passes_of (X := cxOf (L2.CX P w) P w T.K mg base N qual scope fa cdv A outer s H E) rfl
    kind := S.kind }
  refine ⟨_, (sOf_ok _ m _ _ c).2 _ _ txt, ρ, _, hh, _, R, ?_, q, ?_⟩
  · have e : b.nn - ds.length = N.length - vs.length := by rw [hnn, rs.length]
    rw [e]
    exact RelS.start rs _
  · exact ⟨fun ρ' H' h' τ' σ' a S' q' => k1 _ _ _ _ _ a .non q', fun ρ' H' h' d v a rd q' => k1 _ _ _ _ _ a rd q', fun ρ' H' h' τ' σ' a S' q' => q'.elim, fun ρ' H' h' τ' σ' a S' q' => q'.elim, fun ρ' H' h' τ' σ' c fs cls dx a S' rx q' => k2 _ _ _ _ _ _ _ a rx q'⟩
theorem fn_zero {f k : Nat} {fa : Addr} {fd : FuncData} {ps : List Str} : FnOk P w T.K mg base (L2.CX P w) k fa fd ps (spF T ps.length (WPc Z B 0 f)) where
  len := fun vs H Q E h => h.1
  run := fun A outer s H args us vs Q E _ _ _ _ h => (spF_false (fun _ _ _ _ z => z) h).elim
/-- the facts that hang on no def -/
structure Facts0 (G : Gi) (T : Tab) (Z : Zi) (P : Program) (w : World) (mg : Str → Option Value) (base : Heap) : Prop where
  xcs : ∀ x c, (x, c) ∈ G.xcs → mg x = some (.ref (T.xa c)) ∧ PySem.W.keepIn T.K (.ref (T.xa c)) = true ∧ PySem.W.subIn T.K (.ref (T.xa c)) (.type "BaseException") = some true ∧ PySem.W.typeIn T.K (.ref (T.xa c)) = some (.type "type") ∧ XMk T Z P w mg base c
  fre : ∀ x, x ∈ G.free → mg x = none ∧ x ≠ "__name__"
  cst : ∀ x d, (x, d) ∈ G.cst → ∃ u v, mg x = some u ∧ RelV v u ∧ ∀ ρ H, RelD T ρ H d v
  cls : ∀ x c, (x, c) ∈ G.cls → ∃ cv v, (mg x = some cv ∨ (mg x = none ∧ bootBuiltins x = some cv ∧ x ≠ "__name__")) ∧ RelV v cv ∧ (∀ u, RelV v u → u = cv) ∧ PySem.W.kitOne T.K (.type "NoneType") cv = some false ∧
    ∀ e, e < Z.nx → PySem.W.kitOne T.K (.ref (T.xa e)) cv = some (Z.le e c) ∧ PySem.W.exmOne T.K (.ref (T.xa e)) cv = some (Z.le e c)
  own : ∀ e, e < Z.nx → ExcC T.K (T.xa e) ∧ ("__class__" : Str) ∉ T.xf e ∧ (T.xf e).Nodup ∧ ∀ f i, Z.fld e f = some i → (T.xf e)[i]? = some f ∧ PySem.W.findIn T.K (.ref (T.xa e)) f = some none
/-- the defs as the program has them -/
structure DefAt (G : Gi) (T : Tab) (B : List Fd) (mg : Str → Option Value) (x : Str) (f : Nat) : Prop where
  ex : ∃ fa fd qual params body scope N ps b m, mg x = some (.ref fa) ∧ FunD T.K x qual params body scope [] [] fa fd ∧ FnScope N ps scope ∧ B[f]? = some b ∧ b.np = ps.length ∧ b.nn = N.length ∧ ssOf G ⟨N, scope, true, scope⟩ m body = some b.body ∧ Binds T.K fd ps []
theorem facts_of (D : ∀ x f, (x, f) ∈ G.fns → DefAt G T B mg x f) (F0 : Facts0 G T Z P w mg base) : ∀ n, Facts G T Z (WPc Z B n) P w mg base (n + 3)
  | 0 => by
    refine ⟨fun x f hx => ?_, F0.xcs, F0.fre, F0.cst, F0.cls, F0.own⟩
    obtain ⟨fa, fd, qual, params, body, scope, N, ps, b, m, hm, hF, hS, hb, hnp, hnn, ht, hB⟩ := (D x f hx).ex
    exact ⟨fa, fd, ps, hm, hF.kp, hB, fun ds h Q Qx z => z.elim, fn_zero⟩
  | n + 1 => by
    refine ⟨fun x f hx => ?_, F0.xcs, F0.fre, F0.cst, F0.cls, F0.own⟩
    obtain ⟨fa, fd, qual, params, body, scope, N, ps, b, m, hm, hF, hS, hb, hnp, hnn, ht, hB⟩ := (D x f hx).ex
    refine ⟨fa, fd, ps, hm, hF.kp, hB, fun ds h Q Qx z => ?_, fn_deep (by omega) hF hS hb hnp hnn ht (facts_of D F0 n)⟩
    obtain ⟨b', e, hl⟩ := WPc_len z
    rw [hb] at e
    cases e
    rw [hl, hnp]
end
end Mi

set_option Elab.async false
set_option linter.all false
set_option maxRecDepth 100000
set_option maxHeartbeats 4000000
/-! Mi: what the head tells of the program. -/
namespace Mi
open PySem PySem.Spec PyProof.Rows L2

/-! ### a hook with one Bool more -/
def obsX (B : PySem.W.Frag → Bool) (fa : List He.Fa) (fn : List He.DefD) (K : PySem.W.Frag) : Bool × He.AlD := (B K, He.obsD fa fn K)
def obsXG (n : Nat) (B : PySem.W.Frag → Bool) (fa : List He.Fa) (fn : List He.DefD) (g : Addr → Option Obj) : Bool × He.AlD := obsX B fa fn (He.frG g (He.asD g n))
def hookX (n : Nat) (B : PySem.W.Frag → Bool) (fa : List He.Fa) (fn : List He.DefD) : PySem.W.Hook where
  α := Bool × He.AlD
  obs := fun s => obsXG n B fa fn s.heap.get?
  val := fun _ => (true, He.valD fn)
  says := fun _ h => ∃ K : PySem.W.Frag, K.In h ∧ He.SaysD fa fn K ∧ B K = true
  of := fun _ _ e => ⟨_, He.frG_in, congrArg Prod.snd e, congrArg Prod.fst e⟩
  keeps := fun _ _ _ ⟨K, hK, c⟩ k => ⟨K, PySem.W.Frag.In.keeps hK k, c⟩
theorem obsXG_eq {n : Nat} {B : PySem.W.Frag → Bool} {fa : List He.Fa} {fn : List He.DefD} {g : Addr → Option Obj} {s : Shared} (h : ∀ a, g a = s.heap.get? a) : obsXG n B fa fn g = (hookX n B fa fn).obs s := by
  have e : g = s.heap.get? := funext h
  rw [e] <;> rfl

/-! ### what it looks at -/
/-- no list among the written objects -/
def noLst (K : PySem.W.Frag) : Bool := K.all fun p => match p.2.cls with
  | .type c => !decide (c = "list")
  | _ => true
theorem lookup_memA {α : Type} : ∀ {l : List (Addr × α)} {x : Addr} {a : α}, l.lookup x = some a → (x, a) ∈ l
  | [], _, _, h => by cases h
  | (y, b) :: l, x, a, h => by
    rw [List.lookup_cons] at h
    by_cases e : (x == y) = true
    · rw [e] at h; cases h; rw [eq_of_beq e]; exact List.mem_cons_self
    · rw [Bool.not_eq_true] at e; rw [e] at h; exact List.mem_cons_of_mem _ (lookup_memA h)
theorem noLst_ok {K : PySem.W.Frag} (h : noLst K = true) {a : Addr} {o : Obj} (e : K.lookup a = some o) : o.cls ≠ .type "list" := fun z => by
  have := List.all_eq_true.mp h _ (lookup_memA e)
  rw [z] at this
  simp at this
/-- a class of exceptions: isinstance, fields -/
def excB (K : PySem.W.Frag) (C : Addr) (fs : List Str) : Bool :=
  decide (PySem.W.findIn K (.ref C) "__getattribute__" = some (some (.builtin "BaseException.__getattribute__"))) && (decide (PySem.W.findIn K (.ref C) "__getattr__" = some none) && (decide (PySem.W.subIn K (.ref C) (.type "BaseException") = some true) && (PySem.W.hasDictIn K C &&
    (decide (PySem.W.findIn K (.ref C) "__class__" = some (some (.builtin "object.__class__"))) && (decide (PySem.W.specialIn K (.builtin "object.__class__") "__get__" = some (some (.builtin "getset_descriptor.__get__"))) && (decide (PySem.W.takesIn K (.builtin "object.__class__") = some true) &&
      (decide (PySem.W.mroIn K C (.type "object") = some true) && fs.all fun f => decide (PySem.W.findIn K (.ref C) f = some none))))))))
theorem excB_ok {K : PySem.W.Frag} {C : Addr} {fs : List Str} (h : excB K C fs = true) : ExcC K C ∧ ∀ f ∈ fs, PySem.W.findIn K (.ref C) f = some none := by
  unfold excB at h
  simp only [Bool.and_eq_true, decide_eq_true_eq, List.all_eq_true] at h
  obtain ⟨h1, h2, h3, h4, h5, h6, h7, h8, h9⟩ := h
  exact ⟨⟨h1, h2, h3, h4, h5, h6, h7, h8⟩, h9⟩
/-- its pairs -/
def cvOf (K : PySem.W.Frag) (own : Nat) (x : Str) (c : Nat) : Value := if c < own then .ref (He.ga K x) else .type x.toString
def pairB (K : PySem.W.Frag) (own : List Str) (le : Nat → Nat → Bool) (q : Str × Nat) : Bool :=
  decide (PySem.W.kitOne K (.type "NoneType") (cvOf K own.length q.1 q.2) = some false) && (List.range own.length).all fun e => decide (PySem.W.kitOne K (.ref (He.ga K (own.getD e Str.empty))) (cvOf K own.length q.1 q.2) = some (le e q.2)) && decide (PySem.W.exmOne K (.ref (He.ga K (own.getD e Str.empty))) (cvOf K own.length q.1 q.2) = some (le e q.2))
theorem pairB_ok {K : PySem.W.Frag} {own : List Str} {le : Nat → Nat → Bool} {q : Str × Nat} (h : pairB K own le q = true) : PySem.W.kitOne K (.type "NoneType") (cvOf K own.length q.1 q.2) = some false ∧
    ∀ e, e < own.length → PySem.W.kitOne K (.ref (He.ga K (own.getD e Str.empty))) (cvOf K own.length q.1 q.2) = some (le e q.2) ∧ PySem.W.exmOne K (.ref (He.ga K (own.getD e Str.empty))) (cvOf K own.length q.1 q.2) = some (le e q.2) := by
  unfold pairB at h
  simp only [Bool.and_eq_true, decide_eq_true_eq, List.all_eq_true, List.mem_range] at h
  exact h
/-- a class with an own __init__ -/
def oexB (K : PySem.W.Frag) (C : Addr) : Bool := (match K.lookup C with
  | some ⟨.type "type", _, .cls cd, sl⟩ => (match cd.mro, sl.toList with
    | .ref C' :: bm, [_, _, _, _, some (.builtin n), _] => C' == C && n == "ValueError.__new__" && !cd.hasDel && cd.hasDict && PySem.HandSPX.refsVE bm
    | _, _ => false)
  | _ => false) && (decide (PySem.W.findIn K (.ref C) "__setattr__" = some (some (.builtin "object.__setattr__"))) && (decide (PySem.W.subIn K (.ref C) (.type "BaseException") = some true) && (decide (PySem.W.typeIn K (.ref C) = some (.type "type")) && (PySem.W.keepIn K (.ref C) &&
    (decide (PySem.W.findIn K (.ref C) "__init__" = some (some (.ref (He.ma K C "__init__")))) && decide (PySem.W.typeIn K (.ref (He.ma K C "__init__")) = some (.type "function")))))))
theorem oexB_ok {K : PySem.W.Frag} {C : Addr} (h : oexB K C = true) : OexC K C ∧ PySem.W.findIn K (.ref C) "__init__" = some (some (.ref (He.ma K C "__init__"))) ∧ PySem.W.typeIn K (.ref (He.ma K C "__init__")) = some (.type "function") := by
  unfold oexB at h
  rw [Bool.and_eq_true] at h
  obtain ⟨h0, h⟩ := h
  simp only [Bool.and_eq_true, decide_eq_true_eq] at h
  obtain ⟨h1, h2, h3, h4, h5, h6⟩ := h
  refine ⟨⟨?_, h1, h2, h3, h4⟩, h5, h6⟩
  split at h0
  · next dd cd sl ho =>
    split at h0
    · next C' bm k0 k1 k2 k3 n k5 hm hs =>
      simp only [Bool.and_eq_true, beq_iff_eq, Bool.not_eq_true'] at h0
      obtain ⟨⟨⟨⟨rfl, rfl⟩, hdel⟩, hdct⟩, hr⟩ := h0
      obtain ⟨nm, bs, mro, ns, qn, hd, sn, sub, ab, col, del⟩ := cd
      dsimp only at hm hdel hdct
      subst hm hdel hdct
      have hsl : sl = #[k0, k1, k2, k3, some (.builtin "ValueError.__new__"), k5] := by
        obtain ⟨l⟩ := sl
        simp only at hs
        rw [hs]
      subst hsl
      exact ⟨_, _, _, _, _, _, _, _, _, _, _, _, _, _, _, ho, hr⟩
    · cases h0
  · cases h0

/-! ### own __init__s that store -/
section
variable {K : PySem.W.Frag} {P : Program} {w : World} {mg : Str → Option Value} {base : Heap}
theorem init1 {C fI : Addr} {fd : FuncData} {x qual a f : Str} {params : Arguments} {scope : Scope} {p1 p2 p3 p4 : Pos} (O : OexC K C) (hf : PySem.W.findIn K (.ref C) f = some none) (F : FunD K x qual params [.Assign [.Attribute (.Name "self" p1) f p2] (.Name a p3) p4] scope [] [] fI fd)
    (S : FnScope ["self", a] ["self", a] scope) (hda : (a == ("__debug__" : Str)) = false) (hca : (a == ("__classdict__" : Str)) = false) : FnOk P w K mg base (L2.CX P w) 1 fI fd ["self", a] (SpI C [f]) := by
  refine F.ok S (fun vs H Q E h => ?_) fun cdv A outer s H vs Q E hr h => ?_
  · obtain ⟨a, args, rfl, hl, _⟩ := h
    rw [List.length_cons, hl]; rfl
  · obtain ⟨p, args, rfl, hl, hp, q⟩ := h
    match args, hl with
    | [y], _ =>
      have v0 : PE (cxOf (L2.CX P w) P w K mg base ["self", a] qual scope fI cdv A outer s H E) (.Name "self" p1) (tVar 0) := pe_var rfl (by rcases S.par _ List.mem_cons_self with k | k; exact .inl k; exact .inr (.inl k))
      have v1 : PE (cxOf (L2.CX P w) P w K mg base ["self", a] qual scope fI cdv A outer s H E) (.Name a p3) (tVar 1) := pe_var rfl (by rcases S.par a (by simp) with k | k; exact .inl k; exact .inr (.inl k)) hda hca
      refine ⟨_, pss_one (ps_ost v0 v1 rfl), ?_⟩
      refine ⟨y, rfl, .ref p, rfl, p, C, rfl, O, hf, .inl ⟨hp, fun dx hd hne => ?_⟩⟩
      exact q _ dx upd_same ((upd_ne hne).trans upd_same) hd hne fun b h1 h2 => (upd_ne h1).trans (upd_ne h2)
theorem init2 {C fI : Addr} {fd : FuncData} {x qual a b f g : Str} {params : Arguments} {scope : Scope} {p1 p2 p3 p4 p5 p6 p7 p8 : Pos} (O : OexC K C) (hf : PySem.W.findIn K (.ref C) f = some none) (hg : PySem.W.findIn K (.ref C) g = some none)
    (F : FunD K x qual params [.Assign [.Attribute (.Name "self" p1) f p2] (.Name a p3) p4, .Assign [.Attribute (.Name "self" p5) g p6] (.Name b p7) p8] scope [] [] fI fd)
    (S : FnScope ["self", a, b] ["self", a, b] scope) (hda : (a == ("__debug__" : Str)) = false) (hca : (a == ("__classdict__" : Str)) = false) (hdb : (b == ("__debug__" : Str)) = false) (hcb : (b == ("__classdict__" : Str)) = false) : FnOk P w K mg base (L2.CX P w) 1 fI fd ["self", a, b] (SpI C [g, f]) := by
  refine F.ok S (fun vs H Q E h => ?_) fun cdv A outer s H vs Q E hr h => ?_
  · obtain ⟨a, args, rfl, hl, _⟩ := h
    rw [List.length_cons, hl]; rfl
  · obtain ⟨p, args, rfl, hl, hp, q⟩ := h
    match args, hl with
    | [y, z], _ =>
      have v0 : ∀ pp, PE (cxOf (L2.CX P w) P w K mg base ["self", a, b] qual scope fI cdv A outer s H E) (.Name "self" pp) (tVar 0) := fun _ => pe_var rfl (by rcases S.par _ List.mem_cons_self with k | k; exact .inl k; exact .inr (.inl k))
      have v1 : PE (cxOf (L2.CX P w) P w K mg base ["self", a, b] qual scope fI cdv A outer s H E) (.Name a p3) (tVar 1) := pe_var rfl (by rcases S.par a (by simp) with k | k; exact .inl k; exact .inr (.inl k)) hda hca
      have v2 : PE (cxOf (L2.CX P w) P w K mg base ["self", a, b] qual scope fI cdv A outer s H E) (.Name b p7) (tVar 2) := pe_var rfl (by rcases S.par b (by simp) with k | k; exact .inl k; exact .inr (.inl k)) hdb hcb
      refine ⟨_, pss_cons (ps_ost (v0 _) v1 rfl) (pss_one (ps_ost (v0 _) v2 rfl)), ?_⟩
      refine ⟨y, rfl, .ref p, rfl, p, C, rfl, O, hf, .inl ⟨hp, fun dx hd hne => ?_⟩⟩
      refine ⟨z, rfl, .ref p, rfl, p, C, rfl, O, hg, .inr ⟨dx, _, upd_same, (upd_ne hne).trans upd_same, by simp, ?_⟩⟩
      exact q _ dx ((upd_ne (Ne.symm hne)).trans upd_same) upd_same hd hne fun b h1 h2 => (upd_ne h2).trans ((upd_ne h1).trans (upd_ne h2))
end
/-! ### scopes -/
def fnScB (N P : List Str) (sc : Scope) : Bool := (match sc.kind with | .function => true | _ => false) && (!sc.isCoroutine && (!sc.isGenerator && (decide N.Nodup && (decide (N.take P.length = P) &&
  ((P.all fun x => decide (sc.names.lookup x = some .local) || decide (sc.names.lookup x = some .cell)) && sc.names.all fun y => !decide (y.2 = .free))))))
theorem fnScB_ok {N P : List Str} {sc : Scope} (h : fnScB N P sc = true) : FnScope N P sc := by
  unfold fnScB at h
  simp only [Bool.and_eq_true, decide_eq_true_eq, Bool.not_eq_true', List.all_eq_true, Bool.or_eq_true, decide_eq_false_iff_not] at h
  obtain ⟨h1, h2, h3, h4, h5, h6, h7⟩ := h
  refine ⟨?_, h2, h3, h4, h5, h6, h7⟩
  split at h1
  · assumption
  · cases h1

/-! ### the defs of a text -/
structure Dd where
  x : Str
  N : List Str
  ps : List Str
  st : Stmt
def Dd.S (d : Dd) : Sc := ⟨d.N, defScope d.st, true, defScope d.st⟩
def Dd.fn (d : Dd) : He.DefD := ⟨(d.x, none), d.x, d.x, defArgs d.st, defBody d.st, defScope d.st, [], []⟩
def Dd.fd (G : Gi) (d : Dd) : Fd := ⟨d.ps.length, d.N.length, (ssOf G d.S 100 (defBody d.st)).getD .nil⟩
def Dd.ok (G : Gi) (d : Dd) : Bool := fnScB d.N d.ps (defScope d.st) && (ssOf G d.S 100 (defBody d.st)).isSome
theorem def_at {G : Gi} {T : Tab} {B : List Fd} {mg : Str → Option Value} {i : Nat} {d : Dd} (hm : mg d.x = some (.ref (He.fAd T.K (d.x, none)))) (F : ∃ fd, FunD T.K d.x d.x (defArgs d.st) (defBody d.st) (defScope d.st) [] [] (He.fAd T.K (d.x, none)) fd) (ok : d.ok G = true) (hb : B[i]? = some (d.fd G))
    (hbind : ∀ (kV doc pm : Value) (an : Option Addr) (cdv ct : Value) (us : List Value), us.length = d.ps.length → bindArgs (PySem.W.fnOf d.x d.x (defArgs d.st) (defBody d.st) (defScope d.st) .none kV doc pm an cdv ct) ⟨us, []⟩ = pure (d.ps.zip us)) : DefAt G T B mg d.x i := by
  obtain ⟨fd, F⟩ := F
  unfold Dd.ok at ok
  rw [Bool.and_eq_true] at ok
  obtain ⟨h1, h2⟩ := ok
  obtain ⟨b, hb2⟩ := Option.isSome_iff_exists.mp h2
  refine ⟨_, fd, d.x, _, _, _, d.N, d.ps, d.fd G, 100, hm, F, fnScB_ok h1, hb, rfl, rfl, ?_, FunD.bindsN F hbind⟩
  show ssOf G d.S 100 (defBody d.st) = some ((ssOf G d.S 100 (defBody d.st)).getD .nil)
  rw [hb2]; rfl

/-! ### the law's end -/
theorem FnOk.toCX0 {P : Program} {w : World} {K : PySem.W.Frag} {mg : Str → Option Value} {base : Heap} {k : Nat} {f : Addr} {fd : FuncData} {ps : List Str} {sp : Sp} (F : FnOk P w K mg base (L2.CX P w) k f fd ps sp) :
    FnOk P w K mg base CX0 k f fd ps fun vs H Q _ => sp vs H Q fun _ _ _ => False where
  len := fun vs H Q E h => F.len vs H Q _ h
  run := fun A outer s H args us vs Q E hr e b r h => codeAny_mono (F.run A outer s H args us vs Q _ hr e b r h) fun r s' q => by
    cases r with
    | ok fl => cases fl <;> exact q
    | error e => obtain ⟨_, _, _, _, _, _, _, _, _, _, _, _, z⟩ := q; exact z
theorem law_sp {T : Tab} {Z : Zi} {B : List Fd} {n f : Nat} (nl : noLst T.K = true) {H : Hp} {a : Addr} {ns : List Int} (hO : Only H) (hS : SqL T.K H a (ns.map V.int)) (hw : WPc Z B n f [.ref 0] [.fro (ns.map D.int)] (fun d _ => d = .bl true) fun _ _ _ => False) :
    spF T 1 (WPc Z B n f) [.ref a] H (fun v _ => v = .bl true) fun _ _ _ => False := by
  have rel : RelDs T [a] H (ns.map D.int) (ns.map V.int) := by
    clear hS hw
    induction ns with
    | nil => exact .nil
    | cons n ns ih => exact .cons (.int n) ih
  have hf : ∃ o, H a = some (.frz o (.lst (ns.map V.int))) := by
    rcases hS with (h | ⟨o, h⟩) | ⟨o, its, n, h, hc, _⟩
    · rcases hO a with z | ⟨o, xs, z⟩
      · rw [z] at h; cases h
      · rw [z] at h; cases h
    · exact ⟨o, h⟩
    · exact absurd hc (noLst_ok nl h)
  obtain ⟨o, hf⟩ := hf
  have R : Rp T [a] [.fro (ns.map D.int)] H := ⟨rfl, by simp, fun i b o' h1 h2 => by
    cases i with
    | zero => cases h1; cases h2; exact .fro hf rel
    | succ i => simp at h1⟩
  exact ⟨rfl, [a], _, [.ref 0], _, _, R, .cons (.ref rfl) .nil, hw, fun ρ' H' h' d v _ rd q => by subst q; exact relB rd, fun _ _ _ _ _ _ _ _ _ q => q⟩
end Mi

set_option Elab.async false
set_option linter.all false
set_option maxRecDepth 100000
set_option maxHeartbeats 4000000
/-! Mi: a whole program's data, and what the head tells of it. -/
namespace Mi
open PySem PySem.Spec PyProof.Rows L2

inductive Cv where
  | int (i : Int) | str (x : Str)
structure Pd where
  own : List Str
  anc : List (List Nat)
  xf : List (List Str)
  more : List Str
  defs : List Dd
  inits : List He.DefD
  cst : List (Str × Cv)
  free : List Str
def Cv.d : Cv → D
  | .int i => .int i
  | .str x => .str x.cps.toList
def ixs (l : List Str) : List (Str × Nat) := l.zipIdx
def Pd.fnames (p : Pd) : List Str := p.defs.map (·.x)
def Pd.G (p : Pd) : Gi := ⟨ixs p.fnames, ixs p.own, ixs (p.own ++ p.more), p.cst.map fun q => (q.1, q.2.d), p.free⟩
def Pd.Z (p : Pd) : Zi := ⟨p.own.length, fun e c => (p.anc.getD e []).contains c, fun c ds => match p.xf.getD c [] with
    | [] => if ds.length ≤ 1000 then some [] else none
    | l => if ds.length = l.length ∧ ds.length ≤ 1000 then some ds.reverse else none, fun c f => (p.xf.getD c []).findIdx? (· == f)⟩
def Pd.T (p : Pd) (K : PySem.W.Frag) : Tab := ⟨K, fun c => He.ga K (p.own.getD c Str.empty), fun c => p.xf.getD c []⟩
def Pd.B (p : Pd) : List Fd := p.defs.map (Dd.fd p.G)
def Pd.fa (p : Pd) : List He.Fa := p.fnames.map .glo ++ (p.own.map .glo ++ (p.free.map .free ++ p.cst.map fun q => match q.2 with
  | .int i => .int q.1 i
  | .str x => .str q.1 x))
def Pd.fn (p : Pd) : List He.DefD := p.defs.map Dd.fn ++ p.inits
def clsB (p : Pd) (K : PySem.W.Frag) (c : Nat) : Bool := let x := p.own.getD c Str.empty
  excB K (He.ga K x) (p.xf.getD c []) && (match p.xf.getD c [] with
    | [] => PySem.W.excIn K (He.ga K x) He.veBase "ValueError.__new__" && PySem.W.keepIn K (.ref (He.ga K x)) && decide (PySem.W.subIn K (.ref (He.ga K x)) (.type "BaseException") = some true) && decide (PySem.W.typeIn K (.ref (He.ga K x)) = some (.type "type"))
    | _ => oexB K (He.ga K x))
/-- what else is looked at -/
def Pd.bb (p : Pd) (K : PySem.W.Frag) : Bool := noLst K && ((List.range p.own.length).all (clsB p K) && (ixs (p.own ++ p.more)).all (pairB K p.own fun e c => (p.anc.getD e []).contains c))
/-- what hangs on no run -/
def Pd.ok (p : Pd) : Bool := p.defs.all (fun d => d.ok p.G) && (p.xf.all (fun l => decide l.Nodup && (!l.contains "__class__" && decide (l.length ≤ 1000))) && (p.free.all (fun x => !decide (x = ("__name__" : Str))) && (p.more.all fun x => decide (bootBuiltins x = some (.type x.toString)) && (!decide (x = ("__name__" : Str)) && p.free.contains x))))
theorem ixs_mem {l : List Str} {x : Str} {c : Nat} (h : (x, c) ∈ ixs l) : l[c]? = some x := by
  have := List.mem_zipIdx h
  obtain ⟨_, h2, h3⟩ := this
  simp at h2 h3
  rw [h3, List.getElem?_eq_getElem h2]
theorem ixs_in {l : List Str} {x : Str} {c : Nat} (h : l[c]? = some x) : (x, c) ∈ ixs l := by
  obtain ⟨hc, e⟩ := List.getElem?_eq_some_iff.mp h
  have : (ixs l)[c]? = some (x, c) := by
    unfold ixs
    rw [List.getElem?_zipIdx, h]; simp
  exact List.mem_of_getElem? this
def BindOk (d : Dd) : Prop := ∀ (kV doc pm : Value) (an : Option Addr) (cdv ct : Value) (us : List Value), us.length = d.ps.length → bindArgs (PySem.W.fnOf d.x d.x (defArgs d.st) (defBody d.st) (defScope d.st) .none kV doc pm an cdv ct) ⟨us, []⟩ = pure (d.ps.zip us)
section
variable {p : Pd} {K : PySem.W.Frag} {h : Heap} {mg : Str → Option Value} {P : Program} {w : World} {base : Heap}
theorem fact_mem {fa : List He.Fa} {fn : List He.DefD} (c : He.SaysD fa fn K) {f : He.Fa} (hf : f ∈ fa) : f.ok K = true := by
  obtain ⟨i, hi⟩ := List.getElem?_of_mem hf
  exact c.fact i hi
theorem glo_at (X : K.In h) (N : h.Ns mainGlobals mg) (c : He.SaysD p.fa p.fn K) {x : Str} (hx : x ∈ p.fnames ∨ x ∈ p.own) : mg x = some (.ref (He.ga K x)) := by
  refine He.glo_ok X N (fact_mem c ?_)
  unfold Pd.fa
  rcases hx with hx | hx
  · exact List.mem_append_left _ (List.mem_map_of_mem hx)
  · exact List.mem_append_right _ (List.mem_append_left _ (List.mem_map_of_mem hx))
theorem free_at (X : K.In h) (N : h.Ns mainGlobals mg) (c : He.SaysD p.fa p.fn K) {x : Str} (hx : x ∈ p.free) : mg x = none := by
  refine He.free_ok X N (fact_mem c ?_)
  unfold Pd.fa
  exact List.mem_append_right _ (List.mem_append_right _ (List.mem_append_left _ (List.mem_map_of_mem hx)))
/-- an own __init__'s facts -/
def InitOk (p : Pd) (K : PySem.W.Frag) (P : Program) (w : World) (mg : Str → Option Value) (base : Heap) : Prop := ∀ c, c < p.own.length → p.xf.getD c [] ≠ [] → ∃ fd ps k, FnOk P w K mg base (L2.CX P w) k (He.ma K (He.ga K (p.own.getD c Str.empty)) "__init__") fd ps (SpI (He.ga K (p.own.getD c Str.empty)) (p.xf.getD c [])) ∧ k ≤ 2 ∧ Binds K fd ps []
theorem cls_at (hB : p.bb K = true) {c : Nat} (hc : c < p.own.length) : clsB p K c = true := by
  unfold Pd.bb at hB
  simp only [Bool.and_eq_true, List.all_eq_true, List.mem_range] at hB
  exact hB.2.1 c hc
theorem xf_at (ok : p.ok = true) {c : Nat} : (p.xf.getD c []).Nodup ∧ ("__class__" : Str) ∉ p.xf.getD c [] ∧ (p.xf.getD c []).length ≤ 1000 := by
  unfold Pd.ok at ok
  simp only [Bool.and_eq_true, List.all_eq_true] at ok
  cases e : p.xf[c]? with
  | none =>
    have e2 : p.xf.getD c [] = [] := by rw [List.getD_eq_getElem?_getD, e]; rfl
    rw [e2]
    exact ⟨List.nodup_nil, by simp, by simp⟩
  | some l =>
    have e2 : p.xf.getD c [] = l := by rw [List.getD_eq_getElem?_getD, e]; rfl
    rw [e2]
    have := ok.2.1 l (List.mem_of_getElem? e)
    simp only [decide_eq_true_eq, Bool.not_eq_true'] at this
    exact ⟨this.1, by simpa using this.2.1, this.2.2⟩
theorem facts0_of (X : K.In h) (N : h.Ns mainGlobals mg) (c : He.SaysD p.fa p.fn K) (hB : p.bb K = true) (ok : p.ok = true) (hI : InitOk p K P w mg base) : Facts0 p.G (p.T K) p.Z P w mg base where
  xcs := fun x cc hx => by
    have e := ixs_mem hx
    obtain ⟨hc, _⟩ := List.getElem?_eq_some_iff.mp e
    have eg : p.own.getD cc Str.empty = x := by rw [List.getD_eq_getElem?_getD, e]; rfl
    have k := cls_at hB hc
    unfold clsB at k
    rw [Bool.and_eq_true, eg] at k
    obtain ⟨k1, k2⟩ := k
    have hm := glo_at X N c (.inr (List.mem_of_getElem? e))
    show mg x = some (.ref (He.ga K (p.own.getD cc Str.empty))) ∧ PySem.W.keepIn K (.ref (He.ga K (p.own.getD cc Str.empty))) = true ∧ PySem.W.subIn K (.ref (He.ga K (p.own.getD cc Str.empty))) (.type "BaseException") = some true ∧ PySem.W.typeIn K (.ref (He.ga K (p.own.getD cc Str.empty))) = some (.type "type") ∧ _
    rw [eg]
    split at k2
    · next ex =>
      simp only [Bool.and_eq_true, decide_eq_true_eq] at k2
      obtain ⟨⟨⟨q1, q2⟩, q3⟩, q4⟩ := k2
      refine ⟨hm, q2, q3, q4, .plain (bmB := He.veBase) (B := "ValueError") (newId := "ValueError.__new__") (initId := "ValueError.__init__") F.excBase_ValueError ?_ fun ds fs hf => ?_⟩
      · show PySem.W.excIn K (He.ga K (p.own.getD cc Str.empty)) He.veBase "ValueError.__new__" = true
        rw [eg]; exact q1
      · have hf : (match p.xf.getD cc [] with
            | [] => if ds.length ≤ 1000 then some [] else none
            | l => if ds.length = l.length ∧ ds.length ≤ 1000 then some ds.reverse else none) = some fs := hf
        rw [ex] at hf
        obtain ⟨h1, h2⟩ := itd hf
        cases h2
        exact ⟨rfl, h1⟩
    · next ex =>
      obtain ⟨O, iC, tI⟩ := oexB_ok k2
      obtain ⟨fd, ps, kk, hF, hk, hb⟩ := hI cc hc ex
      rw [eg] at hF
      refine ⟨hm, O.kC, O.exC, O.tyC, .own (fI := He.ma K (He.ga K x) "__init__") (fd := fd) (ps := ps) (k := kk) ?_ ?_ tI ?_ hk hb fun ds fs hf => ?_⟩
      · show OexC K (He.ga K (p.own.getD cc Str.empty))
        rw [eg]; exact O
      · show PySem.W.findIn K (.ref (He.ga K (p.own.getD cc Str.empty))) "__init__" = _
        rw [eg]; exact iC
      · show FnOk P w K mg base (L2.CX P w) kk _ fd ps (SpI (He.ga K (p.own.getD cc Str.empty)) (p.xf.getD cc []))
        rw [eg]; exact hF
      · have hf : (match p.xf.getD cc [] with
            | [] => if ds.length ≤ 1000 then some [] else none
            | l => if ds.length = l.length ∧ ds.length ≤ 1000 then some ds.reverse else none) = some fs := hf
        split at hf
        · next e0 => exact absurd e0 ex
        · obtain ⟨⟨h1, h3⟩, h2⟩ := itd hf
          cases h2
          refine ⟨rfl, h1, ?_, h3⟩
          rw [h1]
          exact List.length_pos_iff.mpr ex
  fre := fun x hx => by
    refine ⟨free_at X N c hx, ?_⟩
    unfold Pd.ok at ok
    simp only [Bool.and_eq_true, List.all_eq_true] at ok
    have := ok.2.2.1 x hx
    simpa using this
  cst := fun x d hx => by
    obtain ⟨q, hq, e⟩ := List.mem_map.mp hx
    have hf : (match q.2 with
      | .int i => He.Fa.int q.1 i
      | .str x => He.Fa.str q.1 x) ∈ p.fa := by
      unfold Pd.fa
      exact List.mem_append_right _ (List.mem_append_right _ (List.mem_append_right _ (List.mem_map.mpr ⟨q, hq, rfl⟩)))
    have f := fact_mem c hf
    obtain ⟨q1, q2⟩ := q
    cases e
    cases q2 with
    | int i =>
      obtain ⟨t, ht⟩ := He.int_ok X N f
      exact ⟨_, .int i, ht, ⟨t, rfl⟩, fun _ _ => .int i⟩
    | str z =>
      obtain ⟨t, ht⟩ := He.str_ok X N f
      exact ⟨_, .str z, ht, ⟨t, rfl⟩, fun _ _ => .str rfl⟩
  cls := fun x cc hx => by
    have e := ixs_mem hx
    have pr : pairB K p.own (fun e c => (p.anc.getD e []).contains c) (x, cc) = true := by
      unfold Pd.bb at hB
      simp only [Bool.and_eq_true, List.all_eq_true] at hB
      exact hB.2.2 _ hx
    obtain ⟨p1, p2⟩ := pairB_ok pr
    by_cases hc : cc < p.own.length
    · have e0 : p.own[cc]? = some x := by rw [List.getElem?_append_left hc] at e; exact e
      have ev : cvOf K p.own.length x cc = .ref (He.ga K x) := if_pos hc
      rw [ev] at p1 p2
      exact ⟨_, .ref (He.ga K x), .inl (glo_at X N c (.inr (List.mem_of_getElem? e0))), rfl, fun u hu => hu, p1, p2⟩
    · have e0 : x ∈ p.more := by rw [List.getElem?_append_right (by omega)] at e; exact List.mem_of_getElem? e
      have ev : cvOf K p.own.length x cc = .type x.toString := if_neg hc
      rw [ev] at p1 p2
      unfold Pd.ok at ok
      simp only [Bool.and_eq_true, List.all_eq_true] at ok
      have o := ok.2.2.2 x e0
      simp only [Bool.and_eq_true, decide_eq_true_eq, Bool.not_eq_true', decide_eq_false_iff_not] at o
      exact ⟨_, .ty x.toString, .inr ⟨free_at X N c (free_mem o.2.2), o.1, o.2.1⟩, rfl, fun u hu => hu, p1, p2⟩
  own := fun e he => by
    have k := cls_at hB he
    unfold clsB at k
    rw [Bool.and_eq_true] at k
    obtain ⟨q1, q2⟩ := excB_ok k.1
    obtain ⟨n1, n2, _⟩ := xf_at (c := e) ok
    refine ⟨q1, n2, n1, fun f i hf => ?_⟩
    have hf : (p.xf.getD e []).findIdx? (· == f) = some i := hf
    obtain ⟨hi, e1, _⟩ := List.findIdx?_eq_some_iff_getElem.mp hf
    have e2 : (p.xf.getD e [])[i]? = some f := by rw [List.getElem?_eq_getElem hi, eq_of_beq e1]
    exact ⟨e2, q2 f (List.mem_of_getElem? e2)⟩
theorem defs_at (X : K.In h) (N : h.Ns mainGlobals mg) (c : He.SaysD p.fa p.fn K) (ok : p.ok = true) (hb : ∀ d ∈ p.defs, BindOk d) : ∀ x f, (x, f) ∈ p.G.fns → DefAt p.G (p.T K) p.B mg x f := fun x f hx => by
  have e := ixs_mem hx
  have e' : (p.defs.map (·.x))[f]? = some x := e
  rw [List.getElem?_map] at e'
  obtain ⟨d, ed, rfl⟩ := Option.map_eq_some_iff.mp e'
  have hd := List.mem_of_getElem? ed
  have F := c.def_ f (d := d.fn) (by
    have hl : f < (p.defs.map Dd.fn).length := by rw [List.length_map]; exact (List.getElem?_eq_some_iff.mp ed).1
    show (p.defs.map Dd.fn ++ p.inits)[f]? = some d.fn
    rw [List.getElem?_append_left hl, List.getElem?_map, ed]; rfl)
  refine def_at (d := d) ?_ F ?_ ?_ (hb d hd)
  · exact glo_at X N c (.inl (List.mem_of_getElem? e))
  · unfold Pd.ok at ok
    simp only [Bool.and_eq_true, List.all_eq_true] at ok
    exact ok.1 d hd
  · show (p.defs.map (Dd.fd p.G))[f]? = _
    rw [List.getElem?_map, ed]; rfl
/-- the law's promise -/
theorem law_fn {x s : Str} {f n : Nat} {fa : Addr} (X : K.In h) (N : h.Ns mainGlobals mg) (c : He.SaysD p.fa p.fn K) (hB : p.bb K = true) (ok : p.ok = true) (hb : ∀ d ∈ p.defs, BindOk d) (hI : ∀ base : Heap, InitOk p K P w mg base) (hx : (x, f) ∈ p.G.fns) (hs : (p.defs[f]?.map (·.ps)) = some [s]) (hm : mg x = some (.ref fa))
    (hw : ∀ ns : List Int, ns.length ≤ 63 → WPc p.Z p.B n f [.ref 0] [.fro (ns.map D.int)] (fun d _ => d = .bl true) fun _ _ _ => False) :
    ∃ (fd : FuncData) (sp : Sp), (∀ (s0 : Shared) (u : Value), BindsTo s0 fd ⟨[u], []⟩ [(s, u)]) ∧ (∀ (H : Hp) (a : Addr) (ns : List Int), ns.length ≤ 63 → Only H → SqL K H a (ns.map V.int) → sp [.ref a] H (fun v _ => v = .bl true) fun _ _ _ => False) ∧
      ∀ base : Heap, K.In base → base.Ns mainGlobals mg → FnOk P w K mg base CX0 (n + 3) fa fd [s] sp := by
  have e := ixs_mem hx
  have e' : (p.defs.map (·.x))[f]? = some x := e
  rw [List.getElem?_map] at e'
  obtain ⟨d, ed, rfl⟩ := Option.map_eq_some_iff.mp e'
  have hd := List.mem_of_getElem? ed
  have eps : d.ps = [s] := by rw [ed] at hs; exact Option.some.inj hs
  obtain ⟨fd, F⟩ := c.def_ f (d := d.fn) (by
    have hl : f < (p.defs.map Dd.fn).length := by rw [List.length_map]; exact (List.getElem?_eq_some_iff.mp ed).1
    show (p.defs.map Dd.fn ++ p.inits)[f]? = some d.fn
    rw [List.getElem?_append_left hl, List.getElem?_map, ed]; rfl)
  have hg := glo_at X N c (.inl (List.mem_of_getElem? e))
  rw [hg] at hm
  cases hm
  have nl : noLst K = true := by unfold Pd.bb at hB; exact (Bool.and_eq_true_iff.mp hB).1
  have hbd := hb d hd
  refine ⟨fd, fun vs H Q _ => spF (p.T K) 1 (WPc p.Z p.B n f) vs H Q fun _ _ _ => False, fun s0 u => ?_, fun H a ns hl hO hS => law_sp (T := p.T K) nl hO hS (hw ns hl), fun base KB NB => ?_⟩
  · have q := FunD.bindsA (ps := d.ps) F hbd s0 [u] (by rw [eps]; rfl)
    rw [eps] at q
    exact q
  · have okd : d.ok p.G = true := by
      unfold Pd.ok at ok
      simp only [Bool.and_eq_true, List.all_eq_true] at ok
      exact ok.1 d hd
    have F0 := facts0_of (P := P) (w := w) (base := base) X N c hB ok (hI base)
    have D0 := defs_at X N c ok hb
    unfold Dd.ok at okd
    rw [Bool.and_eq_true] at okd
    obtain ⟨h1, h2⟩ := okd
    obtain ⟨b, hb2⟩ := Option.isSome_iff_exists.mp h2
    have hbB : p.B[f]? = some (d.fd p.G) := by
      show (p.defs.map (Dd.fd p.G))[f]? = _
      rw [List.getElem?_map, ed]; rfl
    have txt : ssOf p.G ⟨d.N, defScope d.st, true, defScope d.st⟩ 100 (defBody d.st) = some (d.fd p.G).body := by
      show ssOf p.G d.S 100 (defBody d.st) = some ((ssOf p.G d.S 100 (defBody d.st)).getD .nil)
      rw [hb2]; rfl
    have sc := fnScB_ok h1
    rw [eps] at sc
    refine FnOk.toCX0 ?_
    cases n with
    | zero => exact fn_zero (T := p.T K) (ps := [s])
    | succ n => exact fn_deep (T := p.T K) (ps := [s]) (by omega) F sc hbB (by show d.ps.length = _; rw [eps]) rfl txt (facts_of D0 F0 n)
end
end Mi

set_option Elab.async false
set_option linter.all false
set_option maxRecDepth 100000
set_option maxHeartbeats 4000000
/-! Mi: what operations give. -/
namespace Mi
open PySem PySem.Spec PyProof.Rows L2

variable {h : Hh}
theorem asK_of {d : D} {ds : List D} (e : asL h d = some ds) : asK h d = none := by
  cases d with
  | ref i =>
    unfold asL at e
    dsimp only at e
    unfold asK
    dsimp only
    split at e
    · next e1 => rw [e1]
    · next e1 => rw [e1]
    · cases e
  | _ => cases e
theorem asL_at {c : Nat} {ds : List D} (e : h[c]? = some (.lst ds)) : asL h (.ref c) = some ds := by
  simp only [asL, e]
theorem asL_fro {c : Nat} {ds : List D} (e : h[c]? = some (.fro ds)) : asL h (.ref c) = some ds := by
  simp only [asL, e]
theorem intS_i {i : Int} : intS h [.int i] = some (.int i, h) := rfl
theorem intS_b {b : Bool} : intS h [.bl b] = some (.int (if b then 1 else 0), h) := rfl
theorem absS_i {i : Int} : absS h [.int i] = some (.int (if i < 0 then -i else i), h) := rfl
theorem lenS_ref {c : Nat} {ds : List D} (e : asL h (.ref c) = some ds) : lenS h [.ref c] = some (.int ds.length, h) := by
  unfold lenS
  dsimp only
  rw [asK_of e, e]; rfl
theorem lenS_tup {ds : List D} : lenS h [.tup ds] = some (.int ds.length, h) := rfl
theorem ixS_ref {c : Nat} {ds : List D} {i : Int} {d : D} (e : asL h (.ref c) = some ds) (hi : atI ds i = some d) : ixS h (.ref c) (.int i) = some (d, h) := by
  unfold ixS
  dsimp only
  rw [asK_of e, e]
  dsimp only
  rw [hi]; rfl
theorem ixS_tup {ds : List D} {i : Int} {d : D} (hi : atI ds i = some d) : ixS h (.tup ds) (.int i) = some (d, h) := by
  unfold ixS
  dsimp only
  rw [hi]; rfl
theorem ixN_of {n : Nat} {i : Int} (h0 : 0 ≤ i) (h1 : i < n) : ixN n i = some i.toNat := by
  unfold ixN
  rw [if_pos h0, if_pos h1]
theorem ixN_nat {n i : Nat} (h1 : i < n) : ixN n (i : Int) = some i := by
  rw [ixN_of (by omega) (by omega), Int.toNat_natCast]
theorem atI_of {α : Type} {xs : List α} {i : Int} {d : α} (h0 : 0 ≤ i) (e : xs[i.toNat]? = some d) : atI xs i = some d := by
  have := (List.getElem?_eq_some_iff.mp e).1
  unfold atI
  rw [ixN_of h0 (by omega)]
  exact e
theorem atI_nat {α : Type} {xs : List α} {i : Nat} {d : α} (e : xs[i]? = some d) : atI xs (i : Int) = some d := atI_of (by omega) (by rw [Int.toNat_natCast]; exact e)
theorem modS_p {i j : Int} (hj : 0 < j) : modS h (.int i) (.int j) = some (.int (i % j), h) := if_pos hj
theorem log2_lt {i : Int} {n : Nat} (h : i.natAbs < 2 ^ (n + 1)) : i.natAbs.log2 < n + 1 := by
  by_cases e : i.natAbs = 0
  · rw [e]; simp
  · exact (Nat.log2_lt e).mpr h
theorem divS_p {i j : Int} (hj : 0 < j) (h2 : j.natAbs < 2 ^ 9000) : divS h (.int i) (.int j) = some (.int (i / j), h) := if_pos ⟨hj, log2_lt h2⟩
theorem mulS_p {i j : Int} (h1 : i.natAbs < 2 ^ 100) (h2 : j.natAbs < 2 ^ 100) : mulS h (.int i) (.int j) = some (.int (i * j), h) := if_pos (by
  have a := log2_lt (n := 99) h1
  have b := log2_lt (n := 99) h2
  omega)
theorem addS_i {i j : Int} : addS h (.int i) (.int j) = some (.int (i + j), h) := rfl
theorem subS_i {i j : Int} : subS h (.int i) (.int j) = some (.int (i - j), h) := rfl
theorem powS_p {i j : Int} (h1 : 0 ≤ j) (h2 : ((i.natAbs.log2 + 1 : Nat) : Int) * j ≤ 2 ^ 27) : powS h (.int i) (.int j) = some (.int (i ^ j.toNat), h) := if_pos ⟨h1, h2⟩
theorem pow18 : powS h (.int 10) (.int 18) = some (.int (10 ^ 18), h) := powS_p (by decide) (by decide +kernel)
theorem pow60 : powS h (.int 10) (.int 60) = some (.int (10 ^ 60), h) := powS_p (by decide) (by decide +kernel)
theorem pow1200 : powS h (.int (10 ^ 60)) (.int 20) = some (.int ((10 ^ 60) ^ 20), h) := powS_p (by decide) (by decide +kernel)
theorem geS_i {i j : Int} : geS h (.int i) (.int j) = some (.bl (decide (j ≤ i)), h) := rfl
theorem gtS_i {i j : Int} : gtS h (.int i) (.int j) = some (.bl (decide (j < i)), h) := rfl
theorem ltS_i {i j : Int} : ltS h (.int i) (.int j) = some (.bl (decide (i < j)), h) := rfl
theorem leS_i {i j : Int} : leS h (.int i) (.int j) = some (.bl (decide (i ≤ j)), h) := rfl
theorem truD_b {b : Bool} : truD h (.bl b) = some b := rfl

/-! ### draws: the same in each text -/
def bSource : Fd := ⟨1, 3, (.cons (.asg (.n 1) (.sl (.v 0) .no (.so (.k (.int 63)))))
  (.cons (.loop (.n 2) (.r1 (.bi .len (.cons (.v 1) .nil))) (.cons (.ite (.op .ge (.bi .abs (.cons (.op .ix (.v 1) (.v 2)) .nil)) (.op .pow (.k (.int 10)) (.k (.int 18)))) (.cons (.sub (.v 1) (.v 2) (.op .mod (.bi .int (.cons (.op .ix (.v 1) (.v 2)) .nil)) (.op .pow (.op .pow (.k (.int 10)) (.k (.int 60))) (.k (.int 20)))))
  .nil) .nil)
  .nil))
  (.cons (.ite (.op .eq (.v 1) (.lst .nil)) (.cons (.asg (.n 1) (.lst (.cons (.k (.int 0)) .nil)))
  .nil) .nil)
  (.cons (.ret (.lst (.cons (.v 1) (.cons (.k (.int 0)) .nil))))
  .nil))))⟩
def bDraw : Fd := ⟨2, 7, (.cons (.asg (.t (.cons (.n 2) (.cons (.n 3) .nil))) (.v 0))
  (.cons (.asg (.n 4) (.op .mod (.bi .int (.cons (.v 3) .nil)) (.bi .len (.cons (.v 2) .nil))))
  (.cons (.asg (.n 5) (.op .ix (.v 2) (.v 4)))
  (.cons (.sub (.v 0) (.k (.int 1)) (.op .add (.v 3) (.k (.int 1))))
  (.cons (.ite (.op .ge (.v 5) (.op .pow (.k (.int 10)) (.k (.int 18)))) (.cons (.sub (.v 2) (.v 4) (.op .div (.v 5) (.v 1)))
  (.cons (.ret (.op .mod (.bi .int (.cons (.v 5) .nil)) (.v 1)))
  .nil)) .nil)
  (.cons (.asg (.n 6) (.op .mod (.bi .int (.cons (.op .add (.op .add (.op .mul (.op .mod (.bi .int (.cons (.v 5) .nil)) (.k (.int 2147483629))) (.k (.int 48271))) (.op .mul (.op .mul (.v 3) (.v 3)) (.k (.int 69621)))) (.k (.int 11))) .nil)) (.k (.int 2147483647))))
  (.cons (.asg (.n 6) (.op .mod (.bi .int (.cons (.op .mul (.v 6) (.v 6)) .nil)) (.k (.int 2147483629))))
  (.cons (.asg (.n 6) (.op .mod (.bi .int (.cons (.op .mul (.v 6) (.v 6)) .nil)) (.k (.int 2147483587))))
  (.cons (.ret (.op .mod (.bi .int (.cons (.v 6) .nil)) (.v 1)))
  .nil)))))))))⟩
/-- a place to draw from: at s, with its cells at c -/
structure Src (h : Hh) (s c : Nat) (t : Int) (cells : List Int) : Prop where
  ne : s ≠ c
  src : h[s]? = some (.lst [.ref c, .int t])
  cel : h[c]? = some (.lst (cells.map D.int))
  pos : cells ≠ []
  t0 : 0 ≤ t
  lt : cells.length ≤ 63
theorem abs_lt {i : Int} {n : Nat} (h0 : 0 ≤ i) (h1 : i < (n : Int)) : i.natAbs < n := by omega
theorem draw_w {Z : Zi} {B : List Fd} {n f : Nat} (hB : B[f]? = some bDraw) {h : Hh} {s c : Nat} {t lim : Int} {cells : List Int} (R : Src h s c t cells) (ht : t < 1000000000) (h1 : 0 < lim) (h2 : lim < 1000000000) {Q : PQ} {Qx : PX}
    (k : ∀ (r : Int) (cells' : List Int), 0 ≤ r → r < lim → cells'.length = cells.length → Q (.int r) ((h.set s (.lst [.ref c, .int (t + 1)])).set c (.lst (cells'.map D.int)))) : WPc Z B (n + 1) f [.ref s, .int lim] h Q Qx := by
  unfold WPc
  rw [hB]
  refine ⟨rfl, ?_⟩
  unfold bDraw
  have hs := asL_at R.src
  have hc := asL_at R.cel
  have hl : 0 < cells.length := List.length_pos_iff.mpr R.pos
  have p0 : 0 ≤ t % (cells.length : Int) := Int.emod_nonneg _ (by omega)
  have p1 : t % (cells.length : Int) < cells.length := Int.emod_lt_of_pos _ (by omega)
  obtain ⟨cell, hcell⟩ : ∃ cell, cells[(t % (cells.length : Int)).toNat]? = some cell := ⟨_, List.getElem?_eq_getElem (by omega)⟩
  have hm : (cells.map D.int)[(t % (cells.length : Int)).toNat]? = some (.int cell) := by rw [List.getElem?_map, hcell]; rfl
  have e0 : lenS h [.ref c] = some (.int cells.length, h) := by rw [lenS_ref hc, List.length_map]
  have e1 : ixS h (.ref c) (.int (t % (cells.length : Int))) = some (.int cell, h) := ixS_ref hc (atI_of p0 hm)
  have hslt : s < h.length := (List.getElem?_eq_some_iff.mp R.src).1
  have hclt : c < h.length := (List.getElem?_eq_some_iff.mp R.cel).1
  have n1 : ixN 2 1 = some 1 := by decide
  have hc2 : (h.set s (.lst [.ref c, .int (t + 1)]))[c]? = some (.lst (cells.map D.int)) := by rw [List.getElem?_set_ne R.ne]; exact R.cel
  have n2 : ixN (cells.map D.int).length (t % (cells.length : Int)) = some (t % (cells.length : Int)).toNat := by rw [List.length_map]; exact ixN_of p0 p1
  have md : ∀ (a m : Int) (n : Nat), 0 < m → m ≤ (n : Int) → (a % m).natAbs < n := fun a m n h0 h1 => abs_lt (Int.emod_nonneg _ (by omega)) (Int.lt_of_lt_of_le (Int.emod_lt_of_pos _ h0) h1)
  simp only [wSs, wS, wE, wEs, wO, wT, wI, wG, gAs, gAss, setA, List.foldl_cons, List.foldl_nil, Op2.sem, Bi.sem, okS, okB, En.px, List.getElem?_cons_zero, List.getElem?_cons_succ, List.set_cons_zero, List.set_cons_succ, List.length_cons, List.length_nil, List.map_cons, List.map_nil, List.cons_append, List.nil_append, List.append_nil, List.replicate_succ, List.replicate_zero, Nat.sub_self, Nat.zero_add, Nat.add_zero, Nat.reduceAdd, Nat.reduceSub, Option.map_some, Option.bind_some, Bool.false_eq_true, if_true, if_false, reduceIte]
  simp only [hs]
  simp only [wSs, wS, wE, wEs, wO, wT, wI, wG, gAs, gAss, setA, List.foldl_cons, List.foldl_nil, Op2.sem, Bi.sem, okS, okB, En.px, List.getElem?_cons_zero, List.getElem?_cons_succ, List.set_cons_zero, List.set_cons_succ, List.length_cons, List.length_nil, List.map_cons, List.map_nil, List.cons_append, List.nil_append, List.append_nil, List.replicate_succ, List.replicate_zero, Nat.sub_self, Nat.zero_add, Nat.add_zero, Nat.reduceAdd, Nat.reduceSub, Option.map_some, Option.bind_some, Bool.false_eq_true, if_true, if_false, reduceIte]
  simp only [intS_i, e0, modS_p (show (0 : Int) < (cells.length : Int) by omega), e1, addS_i, R.src]
  simp only [wSs, wS, wE, wEs, wO, wT, wI, wG, gAs, gAss, setA, List.foldl_cons, List.foldl_nil, Op2.sem, Bi.sem, okS, okB, En.px, List.getElem?_cons_zero, List.getElem?_cons_succ, List.set_cons_zero, List.set_cons_succ, List.length_cons, List.length_nil, List.map_cons, List.map_nil, List.cons_append, List.nil_append, List.append_nil, List.replicate_succ, List.replicate_zero, Nat.sub_self, Nat.zero_add, Nat.add_zero, Nat.reduceAdd, Nat.reduceSub, Option.map_some, Option.bind_some, Bool.false_eq_true, if_true, if_false, reduceIte]
  simp only [n1, pow18, geS_i, truD_b]
  simp only [wSs, wS, wE, wEs, wO, wT, wI, wG, gAs, gAss, setA, List.foldl_cons, List.foldl_nil, Op2.sem, Bi.sem, okS, okB, En.px, List.getElem?_cons_zero, List.getElem?_cons_succ, List.set_cons_zero, List.set_cons_succ, List.length_cons, List.length_nil, List.map_cons, List.map_nil, List.cons_append, List.nil_append, List.append_nil, List.replicate_succ, List.replicate_zero, Nat.sub_self, Nat.zero_add, Nat.add_zero, Nat.reduceAdd, Nat.reduceSub, Option.map_some, Option.bind_some, Bool.false_eq_true, if_true, if_false, reduceIte]
  by_cases hge : (10 ^ 18 : Int) ≤ cell
  · rw [if_pos (by simpa using hge)]
    simp only [divS_p (i := cell) h1 (Nat.lt_of_lt_of_le (abs_lt (n := 1000000000) (by omega) h2) (by decide +kernel)), hc2, n2, intS_i, modS_p h1]
    have z := k (cell % lim) (cells.set (t % (cells.length : Int)).toNat (cell / lim)) (Int.emod_nonneg _ (by omega)) (Int.emod_lt_of_pos _ h1) (List.length_set)
    rw [List.map_set] at z
    exact z
  · rw [if_neg (by simpa using hge)]
    have t2 : t * t ≤ 1000000000 * 1000000000 := Int.mul_le_mul (by omega) (by omega) R.t0 (by omega)
    have t3 : 0 ≤ t * t := Int.mul_nonneg R.t0 R.t0
    have m1 : mulS (h.set s (.lst [.ref c, .int (t + 1)])) (.int (cell % 2147483629)) (.int 48271) = some (.int (cell % 2147483629 * 48271), _) := mulS_p (Nat.lt_of_lt_of_le (md _ _ 2147483629 (by decide) (by decide)) (by decide +kernel)) (by decide +kernel)
    have m2 : mulS (h.set s (.lst [.ref c, .int (t + 1)])) (.int t) (.int t) = some (.int (t * t), _) := mulS_p (Nat.lt_of_lt_of_le (abs_lt (n := 1000000000) R.t0 ht) (by decide +kernel)) (Nat.lt_of_lt_of_le (abs_lt (n := 1000000000) R.t0 ht) (by decide +kernel))
    have m3 : mulS (h.set s (.lst [.ref c, .int (t + 1)])) (.int (t * t)) (.int 69621) = some (.int (t * t * 69621), _) := mulS_p (Nat.lt_of_lt_of_le (abs_lt (n := 1000000000000000001) t3 (by omega)) (by decide +kernel)) (by decide +kernel)
    have m4 : ∀ a : Int, mulS (h.set s (.lst [.ref c, .int (t + 1)])) (.int (a % 2147483647)) (.int (a % 2147483647)) = some (.int (a % 2147483647 * (a % 2147483647)), _) := fun a => mulS_p (Nat.lt_of_lt_of_le (md _ _ 2147483647 (by decide) (by decide)) (by decide +kernel)) (Nat.lt_of_lt_of_le (md _ _ 2147483647 (by decide) (by decide)) (by decide +kernel))
    have m5 : ∀ a : Int, mulS (h.set s (.lst [.ref c, .int (t + 1)])) (.int (a % 2147483629)) (.int (a % 2147483629)) = some (.int (a % 2147483629 * (a % 2147483629)), _) := fun a => mulS_p (Nat.lt_of_lt_of_le (md _ _ 2147483629 (by decide) (by decide)) (by decide +kernel)) (Nat.lt_of_lt_of_le (md _ _ 2147483629 (by decide) (by decide)) (by decide +kernel))
    simp only [intS_i, modS_p (show (0 : Int) < 2147483629 by decide), m1, m2, m3, addS_i, modS_p (show (0 : Int) < 2147483647 by decide), m4, m5, modS_p (show (0 : Int) < 2147483587 by decide), modS_p h1]
    have z := k (((((cell % 2147483629 * 48271 + t * t * 69621 + 11) % 2147483647 * ((cell % 2147483629 * 48271 + t * t * 69621 + 11) % 2147483647)) % 2147483629 * (((cell % 2147483629 * 48271 + t * t * 69621 + 11) % 2147483647 * ((cell % 2147483629 * 48271 + t * t * 69621 + 11) % 2147483647)) % 2147483629)) % 2147483587) % lim) cells (Int.emod_nonneg _ (by omega)) (Int.emod_lt_of_pos _ h1) rfl
    have e : (h.set s (.lst [.ref c, .int (t + 1)])).set c (.lst (cells.map D.int)) = h.set s (.lst [.ref c, .int (t + 1)]) := by
      apply List.ext_getElem?
      intro i
      by_cases hi : i = c
      · subst hi
        rw [List.getElem?_set_self (by simpa using hclt), hc2]
      · rw [List.getElem?_set_ne (fun z => hi z.symm)]
    rw [e] at z
    exact z
end Mi

set_option Elab.async false
set_option linter.all false
set_option maxRecDepth 100000
set_option maxHeartbeats 4000000
/-! Mi: loops by an invariant; where the draws come from. -/
namespace Mi
open PySem PySem.Spec PyProof.Rows L2
theorem wItems_inv {g : Hh → Prop} {body : D → (Sl → Hh → Prop) → Sl → Hh → Prop} {nx : Sl → Hh → Prop} {ds : List D} (I : Nat → Sl → Hh → Prop) (hg : ∀ i τ h, I i τ h → g h)
    (step : ∀ (i : Nat) (d : D) (τ : Sl) (h : Hh) (k : Sl → Hh → Prop), ds[i]? = some d → I i τ h → (∀ τ' h', I (i + 1) τ' h' → k τ' h') → body d k τ h) (hd : ∀ τ h, I ds.length τ h → nx τ h) {τ : Sl} {h : Hh} (h0 : I 0 τ h) : wItems g body nx ds τ h := by
  have gen : ∀ (n i : Nat) (τ : Sl) (h : Hh), ds.length - i = n → i ≤ ds.length → I i τ h → wItems g body nx (ds.drop i) τ h := by
    intro n
    induction n with
    | zero =>
      intro i τ h hn hi hI
      have e : i = ds.length := by omega
      subst e
      rw [List.drop_length]
      exact ⟨hg _ _ _ hI, hd _ _ hI⟩
    | succ n ih =>
      intro i τ h hn hi hI
      have hlt : i < ds.length := by omega
      obtain ⟨d, ed⟩ : ∃ d, ds[i]? = some d := ⟨_, List.getElem?_eq_getElem hlt⟩
      rw [drop_cons ed]
      exact ⟨hg _ _ _ hI, step i d τ h _ ed hI fun τ' h' hI' => ih (i + 1) τ' h' (by omega) (by omega) hI'⟩
  exact gen _ 0 τ h rfl (Nat.zero_le _) h0
theorem range_at {lo : Int} {n i : Nat} {d : D} (e : (rangeD lo n)[i]? = some d) : i < n ∧ d = .int (lo + i) := by
  unfold rangeD at e
  rw [List.getElem?_map] at e
  have hi : i < n := by
    cases e2 : (List.range n)[i]? with
    | none => rw [e2] at e; cases e
    | some j => have := (List.getElem?_eq_some_iff.mp e2).1; simpa using this
  rw [List.getElem?_range hi] at e
  cases e
  exact ⟨hi, rfl⟩
theorem range_len {lo : Int} {n : Nat} : (rangeD lo n).length = n := by simp [rangeD]
theorem cut_map {ns : List Int} {lo hi : Option Int} : cutL (ns.map D.int) lo hi = (cutL ns lo hi).map D.int := by
  unfold cutL
  rw [List.length_map, List.map_take, List.map_drop]
theorem app_at {h : Hh} {o : O} {i : Nat} {u : O} (e : h[i]? = some u) : (h ++ [o])[i]? = some u := by
  rw [List.getElem?_append_left (List.getElem?_eq_some_iff.mp e).1]; exact e
theorem new_at {h : Hh} {o : O} : (h ++ [o])[h.length]? = some o := by
  rw [List.getElem?_append_right (Nat.le_refl _), Nat.sub_self]; rfl
theorem set_new {h : Hh} {o u : O} : (h ++ [o]).set h.length u = h ++ [u] := by
  rw [List.set_append_right _ _ (Nat.le_refl _), Nat.sub_self]; rfl
theorem lk_r1 {τ : Sl} {h : Hh} {e : E} : Ir.lk τ h (.r1 e) = none := rfl
theorem lk_r2 {τ : Sl} {h : Hh} {e f : E} : Ir.lk τ h (.r2 e f) = none := rfl
theorem lk_of' {τ : Sl} {h : Hh} {e : E} : Ir.lk τ h (.of e) = none := rfl
theorem lk_en {τ : Sl} {h : Hh} {e : E} : Ir.lk τ h (.en e) = none := rfl
theorem lk_zp {τ : Sl} {h : Hh} {e f : E} : Ir.lk τ h (.zp e f) = none := rfl
theorem eqS_ll {h : Hh} {i j : Nat} {xs ys : List D} (e1 : asL h (.ref i) = some xs) (e2 : asL h (.ref j) = some ys) (hij : i ≠ j) (hl : xs.length ≠ ys.length) : eqS h (.ref i) (.ref j) = some (.bl false, h) := by
  unfold eqS eqTop
  rw [asK_of e1, asK_of e2]
  unfold eqV
  dsimp only
  rw [e1, e2]
  dsimp only
  rw [if_neg hij, if_neg hl]; rfl
theorem eqS_nil {h : Hh} {i j : Nat} (e1 : asL h (.ref i) = some []) (e2 : asL h (.ref j) = some []) : eqS h (.ref i) (.ref j) = some (.bl true, h) := by
  unfold eqS eqTop
  rw [asK_of e1, asK_of e2]
  unfold eqV
  dsimp only
  rw [e1, e2]
  dsimp only
  by_cases hij : i = j
  · rw [if_pos hij]; rfl
  · rw [if_neg hij, if_pos rfl]; rfl
theorem source_w {Z : Zi} {B : List Fd} {n f : Nat} (hB : B[f]? = some bSource) {h : Hh} {a : Nat} {ns : List Int} (ha : asL h (.ref a) = some (ns.map D.int)) {Q : PQ} {Qx : PX}
    (k : ∀ (s c : Nat) (cells : List Int) (h' : Hh), Src h' s c 0 cells → h <+: h' → Q (.ref s) h') : WPc Z B (n + 1) f [.ref a] h Q Qx := by
  unfold WPc
  rw [hB]
  refine ⟨rfl, ?_⟩
  unfold bSource
  have hcut : (cutL ns none (some 63)).length ≤ 63 := by
    unfold cutL
    have e : HT.sIx ns.length ns.length (some 63) = min 63 ns.length := HT.sIx_nat ns.length ns.length 63
    rw [List.length_take, e]
    omega
  have e0 : slS h (.ref a) none (some 63) = some (.ref h.length, h ++ [.lst ((cutL ns none (some 63)).map D.int)]) := by
    unfold slS
    dsimp only
    rw [ha]
    dsimp only
    rw [cut_map]
  obtain ⟨cs0, hcs⟩ : ∃ cs0, cs0 = cutL ns none (some 63) := ⟨_, rfl⟩
  rw [← hcs] at hcut e0
  clear hcs
  have el : lenS (h ++ [.lst (cs0.map D.int)]) [.ref h.length] = some (.int cs0.length, h ++ [.lst (cs0.map D.int)]) := by rw [lenS_ref (asL_at new_at), List.length_map]
  simp only [wSs, wS, wE, wEs, wO, wT, wI, wG, gAs, gAss, setA, List.foldl_cons, List.foldl_nil, Op2.sem, Bi.sem, okS, okB, En.px, List.getElem?_cons_zero, List.getElem?_cons_succ, List.set_cons_zero, List.set_cons_succ, List.length_cons, List.length_nil, List.map_cons, List.map_nil, List.cons_append, List.nil_append, List.append_nil, List.replicate_succ, List.replicate_zero, Nat.sub_self, Nat.zero_add, Nat.add_zero, Nat.reduceAdd, Nat.reduceSub, Option.map_some, Option.bind_some, Bool.false_eq_true, if_true, if_false, reduceIte]
  simp only [e0, lk_r1, el]
  refine ⟨⟨by omega, by omega⟩, ?_⟩
  refine wItems_inv (fun i τ h' => ∃ (x : Option D) (cs : List Int), τ = [some (.ref a), some (.ref h.length), x] ∧ h' = h ++ [.lst (cs.map D.int)] ∧ cs.length = cs0.length) (fun _ _ _ _ => trivial) (fun i d τ h' k' ed hI kk => ?_) (fun τ h' hI => ?_) ⟨_, cs0, rfl, rfl, rfl⟩
  · obtain ⟨x, cs, rfl, rfl, hl⟩ := hI
    obtain ⟨hi, rfl⟩ := range_at ed
    have hi2 : i < cs.length := by omega
    obtain ⟨v, hv⟩ : ∃ v, cs[i]? = some v := ⟨_, List.getElem?_eq_getElem hi2⟩
    have hz : ((0 : Int) + (i : Int)) = (i : Int) := by omega
    have ex : ixS (h ++ [.lst (cs.map D.int)]) (.ref h.length) (.int ((0 : Int) + (i : Int))) = some (.int v, h ++ [.lst (cs.map D.int)]) := by
      rw [hz]; exact ixS_ref (asL_at new_at) (atI_nat (by rw [List.getElem?_map, hv]; rfl))
    have n2 : ixN (cs.map D.int).length ((0 : Int) + (i : Int)) = some i := by rw [hz, List.length_map]; exact ixN_nat hi2
    simp only [wSs, wS, wE, wEs, wO, wT, wI, wG, gAs, gAss, setA, List.foldl_cons, List.foldl_nil, Op2.sem, Bi.sem, okS, okB, En.px, List.getElem?_cons_zero, List.getElem?_cons_succ, List.set_cons_zero, List.set_cons_succ, List.length_cons, List.length_nil, List.map_cons, List.map_nil, List.cons_append, List.nil_append, List.append_nil, List.replicate_succ, List.replicate_zero, Nat.sub_self, Nat.zero_add, Nat.add_zero, Nat.reduceAdd, Nat.reduceSub, Option.map_some, Option.bind_some, Bool.false_eq_true, if_true, if_false, reduceIte]
    simp only [ex, absS_i, pow18, geS_i, truD_b]
    by_cases hge : (10 ^ 18 : Int) ≤ (if v < 0 then -v else v)
    · rw [if_pos (by simpa using hge)]
      simp only [intS_i, pow60, pow1200, modS_p (show (0 : Int) < (10 ^ 60) ^ 20 by decide +kernel), new_at, n2, set_new]
      exact kk _ _ ⟨_, cs.set i (v % (10 ^ 60) ^ 20), rfl, by rw [List.map_set], by rw [List.length_set, hl]⟩
    · rw [if_neg (by simpa using hge)]
      exact kk _ _ ⟨_, cs, rfl, rfl, hl⟩
  · obtain ⟨x, cs, rfl, rfl, hl⟩ := hI
    have e1 : asL ((h ++ [.lst (cs.map D.int)]) ++ [.lst []]) (.ref h.length) = some (cs.map D.int) := asL_at (app_at new_at)
    have e2 : asL ((h ++ [.lst (cs.map D.int)]) ++ [.lst []]) (.ref (h ++ [O.lst (cs.map D.int)]).length) = some [] := asL_at new_at
    have hne : h.length ≠ (h ++ [O.lst (cs.map D.int)]).length := by simp
    simp only [wSs, wS, wE, wEs, wO, wT, wI, wG, gAs, gAss, setA, List.foldl_cons, List.foldl_nil, Op2.sem, Bi.sem, okS, okB, En.px, List.getElem?_cons_zero, List.getElem?_cons_succ, List.set_cons_zero, List.set_cons_succ, List.length_cons, List.length_nil, List.map_cons, List.map_nil, List.cons_append, List.nil_append, List.append_nil, List.replicate_succ, List.replicate_zero, Nat.sub_self, Nat.zero_add, Nat.add_zero, Nat.reduceAdd, Nat.reduceSub, Option.map_some, Option.bind_some, Bool.false_eq_true, if_true, if_false, reduceIte]
    refine ⟨Nat.zero_le _, ?_⟩
    by_cases hc : cs = []
    · subst hc
      simp only [eqS_nil e1 e2, truD_b]
      simp only [wSs, wS, wE, wEs, wO, wT, wI, wG, gAs, gAss, setA, List.foldl_cons, List.foldl_nil, Op2.sem, Bi.sem, okS, okB, En.px, List.getElem?_cons_zero, List.getElem?_cons_succ, List.set_cons_zero, List.set_cons_succ, List.length_cons, List.length_nil, List.map_cons, List.map_nil, List.cons_append, List.nil_append, List.append_nil, List.replicate_succ, List.replicate_zero, Nat.sub_self, Nat.zero_add, Nat.add_zero, Nat.reduceAdd, Nat.reduceSub, Option.map_some, Option.bind_some, Bool.false_eq_true, if_true, if_false, reduceIte]
      refine ⟨by decide, by decide, ?_⟩
      refine k _ ((h ++ [O.lst []]) ++ [O.lst []]).length [0] _ ⟨by simp, new_at, app_at new_at, by simp, by omega, by simp⟩ ?_
      exact ⟨[O.lst [], O.lst [], O.lst [.int 0], O.lst [.ref ((h ++ [O.lst []]) ++ [O.lst []]).length, .int 0]], by simp⟩
    · have hl2 : (cs.map D.int).length ≠ ([] : List D).length := by
        rw [List.length_map]
        exact fun z => hc (List.length_eq_zero_iff.mp z)
      simp only [eqS_ll e1 e2 hne hl2, truD_b]
      simp only [wSs, wS, wE, wEs, wO, wT, wI, wG, gAs, gAss, setA, List.foldl_cons, List.foldl_nil, Op2.sem, Bi.sem, okS, okB, En.px, List.getElem?_cons_zero, List.getElem?_cons_succ, List.set_cons_zero, List.set_cons_succ, List.length_cons, List.length_nil, List.map_cons, List.map_nil, List.cons_append, List.nil_append, List.append_nil, List.replicate_succ, List.replicate_zero, Nat.sub_self, Nat.zero_add, Nat.add_zero, Nat.reduceAdd, Nat.reduceSub, Option.map_some, Option.bind_some, Bool.false_eq_true, if_true, if_false, reduceIte]
      refine ⟨by decide, ?_⟩
      refine k _ h.length cs _ ⟨by simp, new_at, app_at (app_at new_at), hc, by omega, by omega⟩ ?_
      exact ⟨[O.lst (cs.map D.int), O.lst [], O.lst [.ref h.length, .int 0]], by simp⟩
def bPick (draw : Nat) : Fd := ⟨2, 2, (.cons (.ret (.op .ix (.v 1) (.call draw (.cons (.v 0) (.cons (.bi .len (.cons (.v 1) .nil)) .nil)))))
  .nil)⟩
/-- the heap behind a draw -/
def drawn (h : Hh) (s c : Nat) (t : Int) (cells' : List Int) : Hh := (h.set s (.lst [.ref c, .int (t + 1)])).set c (.lst (cells'.map D.int))
theorem drawn_src {h : Hh} {s c : Nat} {t : Int} {cells cells' : List Int} (R : Src h s c t cells) (hl : cells'.length = cells.length) : Src (drawn h s c t cells') s c (t + 1) cells' := by
  have hs : s < h.length := (List.getElem?_eq_some_iff.mp R.src).1
  have hc : c < h.length := (List.getElem?_eq_some_iff.mp R.cel).1
  refine ⟨R.ne, ?_, ?_, ?_, by have := R.t0; omega, by have := R.lt; omega⟩
  · unfold drawn
    rw [List.getElem?_set_ne (Ne.symm R.ne), List.getElem?_set_self hs]
  · unfold drawn
    rw [List.getElem?_set_self (by simpa using hc)]
  · intro z
    subst z
    exact R.pos (List.length_eq_zero_iff.mp hl.symm)
theorem drawn_at {h : Hh} {s c i : Nat} {t : Int} {cells' : List Int} (h1 : i ≠ s) (h2 : i ≠ c) : (drawn h s c t cells')[i]? = h[i]? := by
  unfold drawn
  rw [List.getElem?_set_ne (Ne.symm h2), List.getElem?_set_ne (Ne.symm h1)]
theorem drawn_len {h : Hh} {s c : Nat} {t : Int} {cells' : List Int} : (drawn h s c t cells').length = h.length := by
  unfold drawn
  rw [List.length_set, List.length_set]
theorem pick_w {Z : Zi} {B : List Fd} {n f g : Nat} (hB : B[f]? = some (bPick g)) (hD : B[g]? = some bDraw) {h : Hh} {s c v : Nat} {t : Int} {cells : List Int} {ds : List D} (R : Src h s c t cells) (ht : t < 1000000000) (hv : asL h (.ref v) = some ds) (vs : v ≠ s) (vc : v ≠ c) (h0 : ds ≠ []) (h1 : ds.length < 1000000000) {Q : PQ} {Qx : PX}
    (k : ∀ (i : Nat) (d : D) (cells' : List Int), ds[i]? = some d → cells'.length = cells.length → Q d (drawn h s c t cells')) : WPc Z B (n + 2) f [.ref s, .ref v] h Q Qx := by
  unfold WPc
  rw [hB]
  refine ⟨rfl, ?_⟩
  unfold bPick
  simp only [wSs, wS, wE, wEs, wO, wT, wI, wG, gAs, gAss, setA, List.foldl_cons, List.foldl_nil, Op2.sem, Bi.sem, okS, okB, En.px, List.getElem?_cons_zero, List.getElem?_cons_succ, List.set_cons_zero, List.set_cons_succ, List.length_cons, List.length_nil, List.map_cons, List.map_nil, List.cons_append, List.nil_append, List.append_nil, List.replicate_succ, List.replicate_zero, Nat.sub_self, Nat.zero_add, Nat.add_zero, Nat.reduceAdd, Nat.reduceSub, Option.map_some, Option.bind_some, Bool.false_eq_true, if_true, if_false, reduceIte]
  simp only [lenS_ref hv]
  refine draw_w hD R ht (by have := List.length_pos_iff.mpr h0; omega) (by omega) fun r cells' r0 r1 hl => ?_
  have hv2 : asL (drawn h s c t cells') (.ref v) = some ds := by
    unfold asL
    dsimp only
    rw [drawn_at vs vc]
    unfold asL at hv
    exact hv
  obtain ⟨d, hd⟩ : ∃ d, ds[r.toNat]? = some d := ⟨_, List.getElem?_eq_getElem (by omega)⟩
  have e : ixS (drawn h s c t cells') (.ref v) (.int r) = some (d, _) := ixS_ref hv2 (atI_of r0 hd)
  show match ixS (drawn h s c t cells') (.ref v) (.int r) with
    | some (z, h) => Q z h
    | none => False
  rw [e]
  exact k r.toNat d cells' hd hl
/-- .. with the heap behind it as one that is known but for two places -/
theorem draw_x {Z : Zi} {B : List Fd} {n f : Nat} (hB : B[f]? = some bDraw) {h : Hh} {s c : Nat} {t lim : Int} {cells : List Int} (R : Src h s c t cells) (ht : t < 1000000000) (h1 : 0 < lim) (h2 : lim < 1000000000) {Q : PQ} {Qx : PX}
    (k : ∀ (r : Int) (h' : Hh) (cells' : List Int), 0 ≤ r → r < lim → Src h' s c (t + 1) cells' → h'.length = h.length → (∀ j, j ≠ s → j ≠ c → h'[j]? = h[j]?) → Q (.int r) h') : WPc Z B (n + 1) f [.ref s, .int lim] h Q Qx :=
  draw_w hB R ht h1 h2 fun r cells' r0 r1 hl => k r _ cells' r0 r1 (drawn_src R hl) drawn_len fun j a b => drawn_at a b
theorem pick_x {Z : Zi} {B : List Fd} {n f g : Nat} (hB : B[f]? = some (bPick g)) (hD : B[g]? = some bDraw) {h : Hh} {s c v : Nat} {t : Int} {cells : List Int} {ds : List D} (R : Src h s c t cells) (ht : t < 1000000000) (hv : asL h (.ref v) = some ds) (vs : v ≠ s) (vc : v ≠ c) (h0 : ds ≠ []) (h1 : ds.length < 1000000000) {Q : PQ} {Qx : PX}
    (k : ∀ (i : Nat) (d : D) (h' : Hh) (cells' : List Int), ds[i]? = some d → Src h' s c (t + 1) cells' → h'.length = h.length → (∀ j, j ≠ s → j ≠ c → h'[j]? = h[j]?) → Q d h') : WPc Z B (n + 2) f [.ref s, .ref v] h Q Qx :=
  pick_w hB hD R ht hv vs vc h0 h1 fun i d cells' hd hl => k i d _ cells' hd (drawn_src R hl) drawn_len fun j a b => drawn_at a b
end Mi

set_option Elab.async false
set_option linter.all false
set_option maxRecDepth 100000
set_option maxHeartbeats 4000000
/-! Mi: lists that grow, comprehensions, comparisons. -/
namespace Mi
open PySem PySem.Spec PyProof.Rows L2
section
variable {Z : Zi} {C : Cal}
theorem wSs_c {s : S} {ss : Ss} {D : En} {τ : Sl} {h : Hh} (w : wS Z C s { D with nx := wSs Z C ss D } τ h) : wSs Z C (.cons s ss) D τ h := w
theorem wSs_n {D : En} {τ : Sl} {h : Hh} (w : D.nx τ h) : wSs Z C .nil D τ h := w
/-- items that are what they are -/
def PureEs (Z : Zi) (C : Cal) (es : Es) (τ : Sl) (ds : List D) : Prop := ∀ (h : Hh) (Q : List D → Hh → Prop) (Qx : PX), Q ds h → wEs Z C es Q Qx τ h
theorem pre_at {h h' : Hh} (p : h <+: h') {i : Nat} {o : O} (e : h[i]? = some o) : h'[i]? = some o := by
  obtain ⟨t, rfl⟩ := p
  rw [List.getElem?_append_left (List.getElem?_eq_some_iff.mp e).1]; exact e
theorem pre_asL {h h' : Hh} (p : h <+: h') {d : D} {ds : List D} (e : asL h d = some ds) : asL h' d = some ds := by
  cases d with
  | ref i =>
    unfold asL at e ⊢
    dsimp only at e ⊢
    cases ei : h[i]? with
    | none => rw [ei] at e; cases e
    | some o => rw [ei] at e; rw [pre_at p ei]; exact e
  | _ => cases e
theorem pre_app {h h' : Hh} (p : h <+: h') (t : Hh) : h <+: h' ++ t := p.trans ⟨t, rfl⟩
/-- x = x + [..], one behind the other -/
def growSs (i : Nat) : List Es → Ss → Ss
  | [], k => k
  | es :: r, k => .cons (.asg (.n i) (.op .add (.v i) (.lst es))) (growSs i r k)
theorem addS_ll {h : Hh} {i j : Nat} {xs ys : List D} (e1 : h[i]? = some (.lst xs)) (e2 : h[j]? = some (.lst ys)) (hl : xs.length + ys.length ≤ 1000000) : addS h (.ref i) (.ref j) = some (.ref h.length, h ++ [.lst (xs ++ ys)]) := by
  unfold addS
  dsimp only
  rw [e1, e2]
  dsimp only
  rw [if_pos (by rw [sizeLine_eq]; omega)]
theorem grow_w {i : Nat} {k : Ss} {D0 : En} : ∀ (rs : List (Es × List D)) {τ : Sl} {h : Hh} {r : Nat} {xs : List D}, (∀ p ∈ rs, ∀ v, PureEs Z C p.1 (τ.set i v) p.2) → i < τ.length → τ[i]? = some (some (.ref r)) → h[r]? = some (.lst xs) → xs.length + (rs.flatMap (·.2)).length ≤ 1000000 →
    (∀ r' h', h <+: h' → h'[r']? = some (.lst (xs ++ rs.flatMap (·.2))) → wSs Z C k D0 (τ.set i (some (.ref r'))) h') → wSs Z C (growSs i (rs.map (·.1)) k) D0 τ h
  | [], τ, h, r, xs, hp, hi, ht, hr, hl, hk => by
    have e : τ.set i (some (.ref r)) = τ := by
      apply List.ext_getElem?
      intro j
      by_cases hj : i = j
      · subst hj; rw [List.getElem?_set_self hi, ht]
      · rw [List.getElem?_set_ne hj]
    have z := hk r h (List.prefix_refl _) (by simpa using hr)
    rw [e] at z
    exact z
  | p :: rs, τ, h, r, xs, hp, hi, ht, hr, hl, hk => by
    have e : τ.set i (some (.ref r)) = τ := by
      apply List.ext_getElem?
      intro j
      by_cases hj : i = j
      · subst hj; rw [List.getElem?_set_self hi, ht]
      · rw [List.getElem?_set_ne hj]
    have pp := hp p List.mem_cons_self (some (.ref r))
    rw [e] at pp
    rw [List.flatMap_cons, List.length_append] at hl
    show wS Z C (.asg (.n i) (.op .add (.v i) (.lst p.1))) { D0 with nx := wSs Z C (growSs i (rs.map (·.1)) k) D0 } τ h
    simp only [wS, wE, ht, Op2.sem]
    refine pp _ _ _ ⟨by rw [sizeLine_eq]; omega, ?_⟩
    rw [addS_ll (app_at hr) new_at (by omega)]
    simp only [okS, wG, gAs, setA, List.foldl_cons, List.foldl_nil]
    refine grow_w rs (fun q hq v => ?_) (by simpa using hi) (List.getElem?_set_self hi) new_at (by rw [List.length_append]; omega) fun r' h' pre hr' => ?_
    · rw [List.set_set]
      exact hp q (List.mem_cons_of_mem _ hq) v
    · rw [List.set_set]
      refine hk r' h' ((pre_app (pre_app (List.prefix_refl h) [.lst p.2]) [.lst (xs ++ p.2)]).trans pre) ?_
      rw [hr', List.flatMap_cons, List.append_assoc]
/-- a comprehension without a test, of what changes nothing else -/
theorem wAcc_map {g : Hh → Prop} {a : Nat} {elt : D → PQ → (Hh → Prop) → Hh → Prop} {k : Hh → Prop} (F : D → D) (I : Hh → Prop) (hg : ∀ h, I h → g h) : ∀ {ds : List D} {h : Hh} {acc : List D}, (∀ d ∈ ds, ∀ q sk h', I h' → (∀ h'', I h'' → h''[a]? = h'[a]? → h''.length = h'.length → (∀ i, i < h'.length → i ≠ a → h''[i]? = h'[i]?) → q (F d) h'') → elt d q sk h') →
    (∀ h' o, I h' → I (h'.set a o)) → I h → h[a]? = some (.lst acc) → acc.length + ds.length ≤ 1000000 → (∀ h', I h' → h'[a]? = some (.lst (acc ++ ds.map F)) → h'.length = h.length → (∀ i, i < h.length → i ≠ a → h'[i]? = h[i]?) → k h') → wAcc g a elt k ds h
  | [], h, acc, he, hs, hI, ha, hl, hk => ⟨hg h hI, hk h hI (by simpa using ha) rfl fun _ _ _ => rfl⟩
  | d :: ds, h, acc, he, hs, hI, ha, hl, hk => by
    refine ⟨hg h hI, he d List.mem_cons_self _ _ h hI fun h2 hI2 e2 l2 o2 => ?_⟩
    rw [e2, ha]
    dsimp only
    have hal : a < h2.length := by rw [l2]; exact (List.getElem?_eq_some_iff.mp ha).1
    refine ⟨by rw [sizeLine_eq]; rw [List.length_cons] at hl; omega, wAcc_map F I hg (fun d' hd' => he d' (List.mem_cons_of_mem _ hd')) hs (hs _ _ hI2) (List.getElem?_set_self hal) (by rw [List.length_append]; rw [List.length_cons] at hl; simp; omega) fun h3 hI3 e3 l3 o3 => ?_⟩
    refine hk h3 hI3 (by rw [e3, List.map_cons, List.append_assoc]; rfl) (by rw [l3, List.length_set, l2]) fun i hi hne => ?_
    rw [o3 i (by rw [List.length_set, l2]; exact hi) hne, List.getElem?_set_ne (Ne.symm hne), o2 i hi hne]
theorem ixS_dct {h : Hh} {a : Nat} {lk : Bool} {kvs : List (Ky × D)} {y d : D} {k : Ky} (e : h[a]? = some (.dct lk kvs)) (hk : y.ky = some k) (hg : getKd kvs k = some d) : ixS h (.ref a) y = some (d, h) := by
  have ek : asK h (.ref a) = some kvs := by simp only [asK, e]
  unfold ixS
  dsimp only
  rw [ek]
  dsimp only
  rw [hk, Option.bind_some, hg]; rfl
/-- == of lists -/
theorem eqL_of {f : D → D → Option Bool} : ∀ {xs ys : List D}, (∀ (i : Nat) x y, xs[i]? = some x → ys[i]? = some y → f x y = some true) → eqL f xs ys = some true
  | [], _, _ => rfl
  | _ :: _, [], _ => rfl
  | x :: xs, y :: ys, h => by
    unfold eqL
    rw [h 0 x y rfl rfl, eqL_of fun i x y e1 e2 => h (i + 1) x y (by simpa using e1) (by simpa using e2)]
    rfl
theorem eqV_bl {h : Hh} {n : Nat} {a b : Bool} : eqV h (n + 1) (.bl a) (.bl b) = some (a == b) := rfl
theorem eqV_int {h : Hh} {n : Nat} {a b : Int} : eqV h (n + 1) (.int a) (.int b) = some (a == b) := rfl
theorem eqV_str {h : Hh} {n : Nat} {a b : List Nat} : eqV h (n + 1) (.str a) (.str b) = some (a == b) := rfl
theorem neS_ll {h : Hh} {i j : Nat} {xs ys : List D} (e1 : asL h (.ref i) = some xs) (e2 : asL h (.ref j) = some ys) (hl : xs.length = ys.length) (he : eqL (eqV h 189) xs ys = some true) : neS h (.ref i) (.ref j) = some (.bl false, h) := by
  unfold neS eqTop
  rw [asK_of e1, asK_of e2]
  unfold eqV
  dsimp only
  rw [e1, e2]
  dsimp only
  by_cases hij : i = j
  · rw [if_pos hij]; rfl
  · rw [if_neg hij, if_pos hl, he]; rfl
end
end Mi

set_option Elab.async false
set_option linter.all false
set_option maxRecDepth 100000
set_option maxHeartbeats 4000000
/-! errors -/
namespace Mi
open PySem PySem.Spec PyProof.Rows L2
def esL : List E → Es
  | [] => .nil
  | e :: r => .cons e (esL r)
def ordr : List Nat := [1, 2, 3, 4, 5, 6, 7, 9, 10, 11, 12, 13, 14, 15, 16, 17, 18, 19, 20, 21, 8, 22]
def isxs (l : List Nat) : Es := esL (l.map fun c => .isx c (.v 0))
def bKinds : Fd := ⟨1, 2, (.cons (.asg (.n 1) (.lst (isxs [1, 2, 3]))) (growSs 1 (([[4, 5], [6, 7], [9, 10], [11, 12], [13, 14], [15, 16], [17, 18], [19, 20], [21, 8], [22]] : List (List Nat)).map isxs) (.cons (.ret (.v 1)) .nil)))⟩
def mks (a : Es) (l : List Nat) : Es := esL (l.map fun c => .mk c a)
def bMade : Fd := ⟨0, 1, (.cons (.asg (.n 0) (.lst (mks .nil [1, 2, 3, 4, 5]))) (growSs 0 (([[6, 7, 9, 10, 11], [12, 13, 14, 15, 16], [17, 18, 19, 20, 21]] : List (List Nat)).map (mks .nil)) (.cons (.ret (.v 0)) .nil)))⟩
def bMadeW : Fd := ⟨1, 2, (.cons (.asg (.n 1) (.lst (mks (.cons (.v 0) .nil) [1, 2, 3, 4]))) (growSs 1 (([[5, 6, 7, 9], [10, 11, 12, 13], [14, 15, 16, 17], [18, 19, 20, 21]] : List (List Nat)).map (mks (.cons (.v 0) .nil))) (.cons (.ret (.v 1)) .nil)))⟩
structure Z38 (Z : Zi) : Prop where
  nx : Z.nx = 23
  le : ∀ e c, e < 23 → c < 24 → Z.le e c = (e == c || c == 0 || c == 23)
  mk0 : ∀ c (ds : List D), c < 23 → c ≠ 8 → c ≠ 22 → ds.length ≤ 1000 → Z.mkf c ds = some []
  mk8 : ∀ d : D, Z.mkf 8 [d] = some [d]
  mk22 : ∀ d e : D, Z.mkf 22 [d, e] = some [e, d]
  at_ : Z.fld 8 "at" = some 0
  line : Z.fld 22 "line" = some 1
  reas : Z.fld 22 "reason" = some 0
section
variable {Z : Zi} {C : Cal}
theorem pure_nil {τ : Sl} : PureEs Z C .nil τ [] := fun h Q Qx q => q
theorem pure_isx (z : Z38 Z) {e : Nat} {fs : List D} (he : e < 23) {τ : Sl} (ht : τ[0]? = some (some (.exn e fs))) : ∀ l : List Nat, PureEs Z C (isxs l) τ (l.map fun c => .bl (Z.le e c))
  | [] => fun h Q Qx q => q
  | c :: l => fun h Q Qx q => by
    show wE Z C (.isx c (.v 0)) (fun d h1 => wEs Z C (isxs l) (fun ds h2 => Q (d :: ds) h2) Qx τ h1) Qx τ h
    simp only [wE, ht]
    exact ⟨by rw [z.nx]; exact he, pure_isx z he ht l h _ Qx q⟩
theorem pure_mk (z : Z38 Z) {a : Es} {τ : Sl} {as : List D} (ha : PureEs Z C a τ as) (hz : as.length ≤ 1000) : ∀ l : List Nat, (∀ c ∈ l, c < 23 ∧ c ≠ 8 ∧ c ≠ 22) → PureEs Z C (mks a l) τ (l.map fun c => .exn c [])
  | [], _ => fun h Q Qx q => q
  | c :: l, hl => fun h Q Qx q => by
    show wE Z C (.mk c a) (fun d h1 => wEs Z C (mks a l) (fun ds h2 => Q (d :: ds) h2) Qx τ h1) Qx τ h
    simp only [wE]
    refine ha _ _ _ ?_
    obtain ⟨c1, c2, c3⟩ := hl c List.mem_cons_self
    rw [z.mk0 c as c1 c2 c3 hz]
    exact pure_mk z ha hz l (fun c hc => hl c (List.mem_cons_of_mem _ hc)) h _ Qx q
theorem kinds_w (z : Z38 Z) {B : List Fd} {n f : Nat} (hB : B[f]? = some bKinds) {h : Hh} {e : Nat} {fs : List D} (he : e < 23) {Q : PQ} {Qx : PX}
    (k : ∀ (r : Nat) (h' : Hh), h <+: h' → h'[r]? = some (.lst (ordr.map fun c => .bl (Z.le e c))) → Q (.ref r) h') : WPc Z B (n + 1) f [.exn e fs] h Q Qx := by
  unfold WPc
  rw [hB]
  refine ⟨rfl, ?_⟩
  show wS Z _ (.asg (.n 1) (.lst (isxs [1, 2, 3]))) _ [some (.exn e fs), none] h
  simp only [wS, wE]
  refine pure_isx z he rfl _ _ _ _ ⟨by rw [sizeLine_eq]; simp, ?_⟩
  simp only [wG, gAs, setA, List.foldl_cons, List.foldl_nil, List.set_cons_succ, List.set_cons_zero]
  refine grow_w (i := 1) (([[4, 5], [6, 7], [9, 10], [11, 12], [13, 14], [15, 16], [17, 18], [19, 20], [21, 8], [22]] : List (List Nat)).map fun l => (isxs l, l.map fun c => D.bl (Z.le e c))) (fun p hp v => ?_) (by simp) rfl new_at (by simp) fun r' h' pre hr' => ?_
  · obtain ⟨l, _, rfl⟩ := List.mem_map.mp hp
    exact pure_isx z he rfl l
  · exact k r' h' ((pre_app (List.prefix_refl h) _).trans pre) hr'
theorem made_w (z : Z38 Z) {B : List Fd} {n f : Nat} (hB : B[f]? = some bMade) {h : Hh} {Q : PQ} {Qx : PX}
    (k : ∀ (r : Nat) (h' : Hh), h <+: h' → h'[r]? = some (.lst (([1, 2, 3, 4, 5, 6, 7, 9, 10, 11, 12, 13, 14, 15, 16, 17, 18, 19, 20, 21] : List Nat).map fun c => .exn c [])) → Q (.ref r) h') : WPc Z B (n + 1) f [] h Q Qx := by
  unfold WPc
  rw [hB]
  refine ⟨rfl, ?_⟩
  show wS Z _ (.asg (.n 0) (.lst (mks .nil [1, 2, 3, 4, 5]))) _ [none] h
  simp only [wS, wE]
  refine pure_mk z (as := []) pure_nil (by simp) _ (by decide) _ _ _ ⟨by rw [sizeLine_eq]; simp, ?_⟩
  simp only [wG, gAs, setA, List.foldl_cons, List.foldl_nil, List.set_cons_succ, List.set_cons_zero]
  refine grow_w (i := 0) (([[6, 7, 9, 10, 11], [12, 13, 14, 15, 16], [17, 18, 19, 20, 21]] : List (List Nat)).map fun l => (mks .nil l, l.map fun c => D.exn c [])) (fun p hp v => ?_) (by simp) rfl new_at (by simp) fun r' h' pre hr' => ?_
  · obtain ⟨l, hl, rfl⟩ := List.mem_map.mp hp
    exact pure_mk z (as := []) pure_nil (by simp) l ((by decide : ∀ l ∈ ([[6, 7, 9, 10, 11], [12, 13, 14, 15, 16], [17, 18, 19, 20, 21]] : List (List Nat)), ∀ c ∈ l, c < 23 ∧ c ≠ 8 ∧ c ≠ 22) l hl)
  · exact k r' h' ((pre_app (List.prefix_refl h) _).trans pre) hr'
theorem madeW_w (z : Z38 Z) {B : List Fd} {n f : Nat} (hB : B[f]? = some bMadeW) {h : Hh} {d : D} {Q : PQ} {Qx : PX}
    (k : ∀ (r : Nat) (h' : Hh), h <+: h' → h'[r]? = some (.lst (([1, 2, 3, 4, 5, 6, 7, 9, 10, 11, 12, 13, 14, 15, 16, 17, 18, 19, 20, 21] : List Nat).map fun c => .exn c [])) → Q (.ref r) h') : WPc Z B (n + 1) f [d] h Q Qx := by
  unfold WPc
  rw [hB]
  refine ⟨rfl, ?_⟩
  show wS Z _ (.asg (.n 1) (.lst (mks (.cons (.v 0) .nil) [1, 2, 3, 4]))) _ [some d, none] h
  simp only [wS, wE]
  have pv : ∀ v : Option D, PureEs Z (WPc Z B n) (.cons (.v 0) .nil) [some d, v] [d] := fun v h Q Qx q => q
  refine pure_mk z (pv _) (by simp) _ (by decide) _ _ _ ⟨by rw [sizeLine_eq]; simp, ?_⟩
  simp only [wG, gAs, setA, List.foldl_cons, List.foldl_nil, List.set_cons_succ, List.set_cons_zero]
  refine grow_w (i := 1) (([[5, 6, 7, 9], [10, 11, 12, 13], [14, 15, 16, 17], [18, 19, 20, 21]] : List (List Nat)).map fun l => (mks (.cons (.v 0) .nil) l, l.map fun c => D.exn c [])) (fun p hp v => ?_) (by simp) rfl new_at (by simp) fun r' h' pre hr' => ?_
  · obtain ⟨l, hl, rfl⟩ := List.mem_map.mp hp
    exact pure_mk z (pv _) (by simp) l ((by decide : ∀ l ∈ ([[5, 6, 7, 9], [10, 11, 12, 13], [14, 15, 16, 17], [18, 19, 20, 21]] : List (List Nat)), ∀ c ∈ l, c < 23 ∧ c ≠ 8 ∧ c ≠ 22) l hl)
  · exact k r' h' ((pre_app (List.prefix_refl h) _).trans pre) hr'
end
end Mi

set_option Elab.async false
set_option linter.all false
set_option maxRecDepth 100000
set_option maxHeartbeats 4000000
/-! errors: the law -/
namespace Mi
open PySem PySem.Spec PyProof.Rows L2

def bLaw38 : Mi.Fd := ⟨1, 11, (.cons (.asg (.n 1) (.call 0 (.cons (.v 0) .nil)))
  (.cons (.asg (.n 2) (.call 2 (.cons (.v 1) (.cons (.lst (.cons (.k (.str [])) (.cons (.k (.str [97])) (.cons (.k (.str [119, 114, 111, 110, 103])) (.cons (.op .mul (.k (.str [110, 111, 32, 118, 97, 108, 117, 101, 32])) (.k (.int 9))) .nil))))) .nil))))
  (.cons (.par 3 4 (.call 1 (.cons (.v 1) (.cons (.k (.int 1000)) .nil))) (.call 2 (.cons (.v 1) (.cons (.lst (.cons (.k (.str [108, 105, 110, 101])) (.cons (.k (.str [102, 97, 99, 116])) (.cons (.k (.str [114, 117, 108, 101])) (.cons (.k (.str [116, 119, 105, 99, 101])) .nil))))) .nil))))
  (.cons (.asg (.n 5) (.op .ix (.dct (.cons (.k (.str [108, 105, 110, 101])) (.k (.str [102, 97, 99, 116])) (.cons (.k (.str [102, 97, 99, 116])) (.k (.str [114, 117, 108, 101])) (.cons (.k (.str [114, 117, 108, 101])) (.k (.str [116, 119, 105, 99, 101])) (.cons (.k (.str [116, 119, 105, 99, 101])) (.k (.str [108, 105, 110, 101])) .nil))))) (.v 4)))
  (.cons (.asg (.n 6) (.lst (.cons (.mk 8 (.cons (.v 3) .nil)) (.cons (.mk 22 (.cons (.v 3) (.cons (.v 4) .nil))) .nil))))
  (.cons (.asg (.n 7) (.lst (.cons (.mk 8 (.cons (.op .add (.v 3) (.k (.int 1))) .nil)) (.cons (.mk 22 (.cons (.op .add (.v 3) (.k (.int 2))) (.cons (.v 5) .nil))) .nil))))
  (.cons (.ite (.op .ne (.lst (.cons (.fld (.op .ix (.v 6) (.k (.int 0))) "at") (.cons (.fld (.op .ix (.v 6) (.k (.int 1))) "line") (.cons (.fld (.op .ix (.v 6) (.k (.int 1))) "reason") .nil)))) (.lst (.cons (.v 3) (.cons (.v 3) (.cons (.v 4) .nil))))) (.cons (.ret (.k (.bl false)))
  .nil) .nil)
  (.cons (.ite (.op .ne (.lst (.cons (.fld (.op .ix (.v 7) (.k (.int 0))) "at") (.cons (.fld (.op .ix (.v 7) (.k (.int 1))) "line") (.cons (.fld (.op .ix (.v 7) (.k (.int 1))) "reason") .nil)))) (.lst (.cons (.op .add (.v 3) (.k (.int 1))) (.cons (.op .add (.v 3) (.k (.int 2))) (.cons (.v 5) .nil))))) (.cons (.ret (.k (.bl false)))
  .nil) .nil)
  (.cons (.ite (.or (.op .inn (.k (.bl true)) (.call 3 (.cons (.mk 0 .nil) .nil))) (.op .inn (.k (.bl true)) (.call 3 (.cons (.mk 0 (.cons (.v 2) .nil)) .nil)))) (.cons (.ret (.k (.bl false)))
  .nil) .nil)
  (.cons (.loop (.n 8) (.of (.lst (.cons (.op .add (.call 4 .nil) (.v 6)) (.cons (.op .add (.call 5 (.cons (.v 2) .nil)) (.v 7)) .nil)))) (.cons (.loop (.n 9) (.r1 (.bi .len (.cons (.v 8) .nil))) (.cons (.ite (.op .ne (.call 3 (.cons (.op .ix (.v 8) (.v 9)) .nil)) (.cp (.n 10) (.r1 (.bi .len (.cons (.v 8) .nil))) .no (.op .eq (.v 10) (.v 9)) [10])) (.cons (.ret (.k (.bl false)))
  .nil) .nil)
  (.cons (.ite (.or (.not (.isx 0 (.op .ix (.v 8) (.v 9)))) (.not (.isx 23 (.op .ix (.v 8) (.v 9))))) (.cons (.ret (.k (.bl false)))
  .nil) .nil)
  .nil)))
  .nil))
  (.cons (.ret (.k (.bl true)))
  .nil)))))))))))⟩
section
variable {Z : Zi} {C : Cal}
theorem Src.app {h h' : Hh} {s c : Nat} {t : Int} {cells : List Int} (R : Src h s c t cells) (p : h <+: h') : Src h' s c t cells := ⟨R.ne, pre_at p R.src, pre_at p R.cel, R.pos, R.t0, R.lt⟩
theorem inS_no {h : Hh} {r : Nat} {l : List Nat} {g : Nat → Bool} (e : asL h (.ref r) = some (l.map fun c => .bl (g c))) (hg : ∀ c ∈ l, g c = false) : inS h (.bl true) (.ref r) = some (.bl false, h) := by
  have q : ∀ l : List Nat, (∀ c ∈ l, g c = false) → eqsWith h (.bl true) (l.map fun c => .bl (g c)) = some (l.map fun _ => false) := fun l => by
    induction l with
    | nil => intro _; rfl
    | cons c l ih =>
      intro hl
      rw [List.map_cons, List.map_cons]
      unfold eqsWith
      rw [ih fun c hc => hl c (List.mem_cons_of_mem _ hc), hl c List.mem_cons_self]
      rfl
  unfold inS inV
  dsimp only
  rw [asK_of e, e]
  dsimp only
  rw [q l hg]
  have : (l.map fun _ => false).any id = false := by
    induction l with
    | nil => rfl
    | cons c l ih => simp
  rw [Option.map_some, this]; rfl
theorem pre_of {h h' : Hh} (hl : h.length ≤ h'.length) (e : ∀ i, i < h.length → h'[i]? = h[i]?) : h <+: h' := by
  have : h = h'.take h.length := by
    apply List.ext_getElem?
    intro i
    rw [List.getElem?_take]
    split
    · next hi => rw [e i hi]
    · next hi => exact List.getElem?_eq_none (by omega)
  rw [this]
  exact List.take_prefix _ _
/-- a list of one exception of each class, in the order asked -/
def Md (xs : List D) : Prop := xs.length = 22 ∧ ∀ i < 22, ∃ fs, xs[i]? = some (.exn (ordr.getD i 0) fs)
theorem le_ordr : ∀ i < 22, ordr.getD i 0 < 23 ∧ ∀ j < 22, ordr.getD j 0 < 24 ∧ (ordr.getD i 0 == ordr.getD j 0 || ordr.getD j 0 == 0 || ordr.getD j 0 == 23) = (j == i) := by decide
def eqI (i : Nat) : D → D
  | .int k => .bl (k == (i : Int))
  | _ => .non
theorem inner_w (z : Z38 Z) {B : List Fd} {n : Nat} (h3 : B[3]? = some bKinds) {h : Hh} {m : Nat} {xs : List D} (hm : h[m]? = some (.lst xs)) (md : Md xs) {i : Nat} (hi : i < 22) {a b c d e f g k v10 : Option D} {D0 : En} (hn : ∀ v h', h <+: h' → D0.nx [a, b, c, d, e, f, g, k, some (.ref m), some (.int (0 + (i : Int))), v] h') :
    wSs Z (WPc Z B (n + 1)) (.cons (.ite (.op .ne (.call 3 (.cons (.op .ix (.v 8) (.v 9)) .nil)) (.cp (.n 10) (.r1 (.bi .len (.cons (.v 8) .nil))) .no (.op .eq (.v 10) (.v 9)) [10])) (.cons (.ret (.k (.bl false))) .nil) .nil)
      (.cons (.ite (.or (.not (.isx 0 (.op .ix (.v 8) (.v 9)))) (.not (.isx 23 (.op .ix (.v 8) (.v 9))))) (.cons (.ret (.k (.bl false))) .nil) .nil) .nil)) D0 [a, b, c, d, e, f, g, k, some (.ref m), some (.int (0 + (i : Int))), v10] h := by
  obtain ⟨hl, hx⟩ := md
  obtain ⟨fs, ex⟩ := hx i hi
  obtain ⟨o1, o2⟩ := le_ordr i hi
  have hz : ((0 : Int) + (i : Int)) = (i : Int) := by omega
  have ix : ∀ h', h <+: h' → ixS h' (.ref m) (.int (0 + (i : Int))) = some (.exn (ordr.getD i 0) fs, h') := fun h' p => by
    rw [hz]; exact ixS_ref (asL_at (pre_at p hm)) (atI_nat ex)
  refine wSs_c ?_
  simp only [wS, wE, wEs, wI, lk_r1, List.getElem?_cons_zero, List.getElem?_cons_succ, Op2.sem, Bi.sem, okS, ix h (List.prefix_refl h)]
  refine kinds_w z h3 o1 fun r h1 p1 g1 => ?_
  rw [lenS_ref (asL_at (pre_at p1 hm)), hl]
  refine ⟨⟨by decide, by decide⟩, ?_⟩
  refine wAcc_map (eqI i) (fun _ => True) (fun _ _ => trivial) (fun d' hd' q sk h' _ hq => ?_) (fun _ _ _ => trivial) trivial new_at (by rw [range_len]; decide) fun h2 _ g2 l2 o2' => ?_
  · obtain ⟨j, ej⟩ := List.getElem?_of_mem hd'
    obtain ⟨hj, rfl⟩ := range_at ej
    simp only [wG, gAs, setA, List.foldl_cons, List.foldl_nil, wT, wipeA, List.set_cons_succ, List.set_cons_zero, wE, List.getElem?_cons_zero, List.getElem?_cons_succ, Op2.sem, okS, if_true]
    have ee : eqS h' (.int (0 + (j : Int))) (.int (0 + (i : Int))) = some (.bl ((0 + (j : Int)) == (0 + (i : Int))), h') := rfl
    rw [ee]
    have z := hq h' trivial rfl rfl fun _ _ _ => rfl
    unfold eqI at z
    rw [hz]
    exact z
  · have p2 : h1 <+: h2 := pre_of (by rw [l2]; simp) fun j hj => by
      rw [o2' j (by simp; omega) (by omega), List.getElem?_append_left hj]
    have e2 : neS h2 (.ref r) (.ref h1.length) = some (.bl false, h2) := by
      refine neS_ll (asL_at (pre_at p2 g1)) (asL_at g2) (by rw [List.nil_append, List.length_map, List.length_map, range_len]; rfl) (eqL_of fun j x y ex ey => ?_)
      rw [List.nil_append, List.getElem?_map] at ey
      obtain ⟨w, ew, rfl⟩ := Option.map_eq_some_iff.mp ey
      obtain ⟨hj, rfl⟩ := range_at ew
      have hj2 : j < 22 := by simpa using hj
      rw [List.getElem?_map] at ex
      obtain ⟨cc, ec, rfl⟩ := Option.map_eq_some_iff.mp ex
      have e3 : ordr.getD j 0 = cc := by rw [List.getD_eq_getElem?_getD, ec]; rfl
      obtain ⟨q1, q2⟩ := o2 j hj2
      rw [← e3, z.le _ _ o1 q1, q2]
      show some ((j == i) == ((0 + (j : Int)) == (i : Int))) = some true
      by_cases hji : j = i
      · subst hji; simp
      · have a0 : (j == i) = false := beq_eq_false_iff_ne.mpr hji
        have b0 : ((0 : Int) + (j : Int) == (i : Int)) = false := beq_eq_false_iff_ne.mpr (by omega)
        rw [a0, b0]; rfl
    rw [e2]
    simp only [truD_b, okB, Bool.false_eq_true, if_false]
    refine wSs_n (wSs_c ?_)
    have q0 : Z.le (ordr.getD i 0) 0 = true := by rw [z.le _ _ o1 (by decide)]; simp
    have q23 : Z.le (ordr.getD i 0) 23 = true := by rw [z.le _ _ o1 (by decide)]; simp
    simp only [wS, wE, List.getElem?_cons_zero, List.getElem?_cons_succ, Op2.sem, okS, okB, ix h2 (p1.trans p2), q0, q23, truD_b, Bool.not_true, Bool.false_eq_true, if_false]
    exact ⟨by rw [z.nx]; exact o1, by rw [z.nx]; exact o1, wSs_n (hn _ _ (p1.trans p2))⟩
theorem law38_w (z : Z38 Z) {B : List Fd} {n : Nat} (h0 : B[0]? = some bSource) (h1 : B[1]? = some bDraw) (h2 : B[2]? = some (bPick 1)) (h3 : B[3]? = some bKinds) (h4 : B[4]? = some bMade) (h5 : B[5]? = some bMadeW) (h6 : B[6]? = some bLaw38) (ns : List Int) :
    WPc Z B (n + 3) 6 [.ref 0] [.fro (ns.map D.int)] (fun d _ => d = .bl true) fun _ _ _ => False := by
  unfold WPc
  rw [h6]
  refine ⟨rfl, ?_⟩
  unfold bLaw38
  refine wSs_c ?_
  show wS Z _ _ _ [some (.ref 0), none, none, none, none, none, none, none, none, none, none] _
  simp only [wS, wE, wEs, wPs, kysOf, D.ky, wO, wT, wI, wG, gAs, gAss, setA, List.foldl_cons, List.foldl_nil, Op2.sem, Bi.sem, okS, okB, En.px, List.getElem?_cons_zero, List.getElem?_cons_succ, List.set_cons_zero, List.set_cons_succ, List.map_cons, List.map_nil, List.cons_append, List.nil_append, List.append_nil, Bool.false_eq_true, if_true, if_false, reduceIte]
  refine source_w h0 (asL_fro rfl) fun s c cells ha R _ => wSs_c ?_
  have hsl : s < ha.length := (List.getElem?_eq_some_iff.mp R.src).1
  have hcl : c < ha.length := (List.getElem?_eq_some_iff.mp R.cel).1
  have em : mulS ha (.str [110, 111, 32, 118, 97, 108, 117, 101, 32]) (.int 9) = some (.str (List.replicate 9 [110, 111, 32, 118, 97, 108, 117, 101, 32]).flatten, ha) := by
    unfold mulS
    dsimp only
    rw [if_pos (by decide)]; rfl
  simp only [wS, wE, wEs, wPs, kysOf, D.ky, wO, wT, wI, wG, gAs, gAss, setA, List.foldl_cons, List.foldl_nil, Op2.sem, Bi.sem, okS, okB, En.px, List.getElem?_cons_zero, List.getElem?_cons_succ, List.set_cons_zero, List.set_cons_succ, List.map_cons, List.map_nil, List.cons_append, List.nil_append, List.append_nil, Bool.false_eq_true, if_true, if_false, reduceIte]
  simp only [em]
  refine ⟨by rw [sizeLine_eq]; simp, ?_⟩
  refine pick_x h2 h1 (R.app ⟨_, rfl⟩) (by decide) (asL_at new_at) (by omega) (by omega) (by simp) (by simp) fun i1 w hb cs1 hw1 R1 _ _ => wSs_c ?_
  simp only [wS, wE, wEs, wPs, kysOf, D.ky, wO, wT, wI, wG, gAs, gAss, setA, List.foldl_cons, List.foldl_nil, Op2.sem, Bi.sem, okS, okB, En.px, List.getElem?_cons_zero, List.getElem?_cons_succ, List.set_cons_zero, List.set_cons_succ, List.map_cons, List.map_nil, List.cons_append, List.nil_append, List.append_nil, Bool.false_eq_true, if_true, if_false, reduceIte]
  refine draw_x h1 R1 (by decide) (by decide) (by decide) fun L hc cs2 L0 L1 R2 _ _ => ?_
  have hsl2 : s < hc.length := (List.getElem?_eq_some_iff.mp R2.src).1
  have hcl2 : c < hc.length := (List.getElem?_eq_some_iff.mp R2.cel).1
  refine ⟨by rw [sizeLine_eq]; simp, ?_⟩
  refine pick_x h2 h1 (R2.app ⟨_, rfl⟩) (by decide) (asL_at new_at) (by omega) (by omega) (by simp) (by simp) fun i2 re hd cs3 hre R3 _ _ => wSs_c ?_
  obtain ⟨rs, sec, rfl, hsec⟩ : ∃ rs sec : List Nat, re = .str rs ∧ getKd [(Ky.s [108, 105, 110, 101], D.str [102, 97, 99, 116]), (.s [102, 97, 99, 116], .str [114, 117, 108, 101]), (.s [114, 117, 108, 101], .str [116, 119, 105, 99, 101]), (.s [116, 119, 105, 99, 101], .str [108, 105, 110, 101])] (.s rs) = some (.str sec) := by
    match i2, hre with
    | 0, hre => cases hre; exact ⟨_, _, rfl, rfl⟩
    | 1, hre => cases hre; exact ⟨_, _, rfl, rfl⟩
    | 2, hre => cases hre; exact ⟨_, _, rfl, rfl⟩
    | 3, hre => cases hre; exact ⟨_, _, rfl, rfl⟩
    | i + 4, hre => simp at hre
  clear hre R3 R2 R1 R hw1 em hsl hcl hsl2 hcl2
  simp only [wS, wE, wEs, wPs, kysOf, D.ky, wO, wT, wI, wG, gAs, gAss, setA, List.foldl_cons, List.foldl_nil, Op2.sem, Bi.sem, okS, okB, En.px, List.getElem?_cons_zero, List.getElem?_cons_succ, List.set_cons_zero, List.set_cons_succ, List.map_cons, List.map_nil, List.cons_append, List.nil_append, List.append_nil, Bool.false_eq_true, if_true, if_false, reduceIte]
  rw [set_new]
  have ed : mergeKd [] [(Ky.s [108, 105, 110, 101], D.str [102, 97, 99, 116]), (Ky.s [102, 97, 99, 116], D.str [114, 117, 108, 101]), (Ky.s [114, 117, 108, 101], D.str [116, 119, 105, 99, 101]), (Ky.s [116, 119, 105, 99, 101], D.str [108, 105, 110, 101])] = [(Ky.s [108, 105, 110, 101], D.str [102, 97, 99, 116]), (Ky.s [102, 97, 99, 116], D.str [114, 117, 108, 101]), (Ky.s [114, 117, 108, 101], D.str [116, 119, 105, 99, 101]), (Ky.s [116, 119, 105, 99, 101], D.str [108, 105, 110, 101])] := rfl
  rw [ed, ixS_dct new_at rfl hsec]
  refine ⟨by decide, new_at, wSs_c ?_⟩
  generalize hd ++ [O.dct false [(Ky.s [108, 105, 110, 101], D.str [102, 97, 99, 116]), (Ky.s [102, 97, 99, 116], D.str [114, 117, 108, 101]), (Ky.s [114, 117, 108, 101], D.str [116, 119, 105, 99, 101]), (Ky.s [116, 119, 105, 99, 101], D.str [108, 105, 110, 101])]] = ha1
  clear ed hsec
  simp only [wS, wE, wEs, wPs, kysOf, D.ky, wO, wT, wI, wG, gAs, gAss, setA, List.foldl_cons, List.foldl_nil, Op2.sem, Bi.sem, okS, okB, En.px, List.getElem?_cons_zero, List.getElem?_cons_succ, List.set_cons_zero, List.set_cons_succ, List.map_cons, List.map_nil, List.cons_append, List.nil_append, List.append_nil, Bool.false_eq_true, if_true, if_false, reduceIte]
  simp only [z.mk8, z.mk22]
  refine ⟨by rw [sizeLine_eq]; simp, wSs_c ?_⟩
  simp only [wS, wE, wEs, wPs, kysOf, D.ky, wO, wT, wI, wG, gAs, gAss, setA, List.foldl_cons, List.foldl_nil, Op2.sem, Bi.sem, okS, okB, En.px, List.getElem?_cons_zero, List.getElem?_cons_succ, List.set_cons_zero, List.set_cons_succ, List.map_cons, List.map_nil, List.cons_append, List.nil_append, List.append_nil, Bool.false_eq_true, if_true, if_false, reduceIte]
  simp only [addS_i, z.mk8, z.mk22]
  refine ⟨by rw [sizeLine_eq]; simp, wSs_c ?_⟩
  obtain ⟨x1, ex1⟩ : ∃ x, x = ha1 ++ [O.lst [.exn 8 [.int L], .exn 22 [.str rs, .int L]]] := ⟨_, rfl⟩
  rw [← ex1]
  obtain ⟨x2, ex2⟩ : ∃ x, x = x1 ++ [O.lst [.exn 8 [.int (L + 1)], .exn 22 [.str sec, .int (L + 2)]]] := ⟨_, rfl⟩
  rw [← ex2]
  have l1 : x2[ha1.length]? = some (.lst [.exn 8 [.int L], .exn 22 [.str rs, .int L]]) := by rw [ex2, ex1]; exact app_at new_at
  have l2 : x2[x1.length]? = some (.lst [.exn 8 [.int (L + 1)], .exn 22 [.str sec, .int (L + 2)]]) := by rw [ex2]; exact new_at
  generalize ha1.length = a1 at l1
  generalize x1.length = a2 at l2
  clear ex2 ex1 x1
  have hnx : 8 < Z.nx ∧ 22 < Z.nx := by rw [z.nx]; decide
  have ne3 : ∀ (x : Hh) (p q r p' q' r' : D), eqL (eqV (x ++ [O.lst [p, q, r]] ++ [O.lst [p', q', r']]) 189) [p, q, r] [p', q', r'] = some true → neS (x ++ [O.lst [p, q, r]] ++ [O.lst [p', q', r']]) (.ref x.length) (.ref (x ++ [O.lst [p, q, r]]).length) = some (.bl false, x ++ [O.lst [p, q, r]] ++ [O.lst [p', q', r']]) := fun x p q r p' q' r' he => neS_ll (asL_at (app_at new_at)) (asL_at new_at) rfl he
  have sz3 : ∀ p q r : D, [p, q, r].length ≤ sizeLine := fun p q r => by rw [sizeLine_eq]; simp
  have eq3 : ∀ (x : Hh) (p q : Int) (r : List Nat), eqL (eqV x 189) [.int p, .int q, .str r] [.int p, .int q, .str r] = some true := fun x p q r => by
    simp only [eqL, eqV_int, eqV_str, beq_self_eq_true, Bool.and_self]
  simp only [wS, wE, wEs, wPs, kysOf, D.ky, wO, wT, wI, wG, gAs, gAss, setA, List.foldl_cons, List.foldl_nil, Op2.sem, Bi.sem, okS, okB, En.px, List.getElem?_cons_zero, List.getElem?_cons_succ, List.set_cons_zero, List.set_cons_succ, List.map_cons, List.map_nil, List.cons_append, List.nil_append, List.append_nil, Bool.false_eq_true, if_true, if_false, reduceIte]
  simp only [ixS_ref (asL_at l1) (show atI _ 0 = _ from rfl), ixS_ref (asL_at l1) (show atI _ 1 = _ from rfl), z.at_, z.line, z.reas, List.getElem?_cons_zero, List.getElem?_cons_succ]
  refine ⟨hnx.1, hnx.2, hnx.2, sz3 _ _ _, sz3 _ _ _, ?_⟩
  rw [ne3 _ _ _ _ _ _ _ (eq3 _ _ _ _)]
  simp only [truD_b, Bool.false_eq_true, if_false]
  refine wSs_n (wSs_c ?_)
  have l1' := app_at (o := O.lst [.int L, .int L, .str rs]) (app_at (o := O.lst [.int L, .int L, .str rs]) l1)
  have l2' := app_at (o := O.lst [.int L, .int L, .str rs]) (app_at (o := O.lst [.int L, .int L, .str rs]) l2)
  clear l1 l2
  generalize (x2 ++ [O.lst [.int L, .int L, .str rs]]) ++ [O.lst [.int L, .int L, .str rs]] = x3 at l1' l2'
  simp only [wS, wE, wEs, wPs, kysOf, D.ky, wO, wT, wI, wG, gAs, gAss, setA, List.foldl_cons, List.foldl_nil, Op2.sem, Bi.sem, okS, okB, En.px, List.getElem?_cons_zero, List.getElem?_cons_succ, List.set_cons_zero, List.set_cons_succ, List.map_cons, List.map_nil, List.cons_append, List.nil_append, List.append_nil, Bool.false_eq_true, if_true, if_false, reduceIte]
  simp only [ixS_ref (asL_at l2') (show atI _ 0 = _ from rfl), ixS_ref (asL_at l2') (show atI _ 1 = _ from rfl), z.at_, z.line, z.reas, List.getElem?_cons_zero, List.getElem?_cons_succ, addS_i]
  refine ⟨hnx.1, hnx.2, hnx.2, sz3 _ _ _, sz3 _ _ _, ?_⟩
  rw [ne3 _ _ _ _ _ _ _ (eq3 _ _ _ _)]
  simp only [truD_b, Bool.false_eq_true, if_false]
  refine wSs_n (wSs_c ?_)
  have l1 := app_at (o := O.lst [.int (L + 1), .int (L + 2), .str sec]) (app_at (o := O.lst [.int (L + 1), .int (L + 2), .str sec]) l1')
  have l2 := app_at (o := O.lst [.int (L + 1), .int (L + 2), .str sec]) (app_at (o := O.lst [.int (L + 1), .int (L + 2), .str sec]) l2')
  clear l1' l2'
  generalize (x3 ++ [O.lst [.int (L + 1), .int (L + 2), .str sec]]) ++ [O.lst [.int (L + 1), .int (L + 2), .str sec]] = x4 at l1 l2
  simp only [wS, wE, wEs, wPs, kysOf, D.ky, wO, wT, wI, wG, gAs, gAss, setA, List.foldl_cons, List.foldl_nil, Op2.sem, Bi.sem, okS, okB, En.px, List.getElem?_cons_zero, List.getElem?_cons_succ, List.set_cons_zero, List.set_cons_succ, List.map_cons, List.map_nil, List.cons_append, List.nil_append, List.append_nil, Bool.false_eq_true, if_true, if_false, reduceIte]
  simp only [z.mk0 0 [] (by decide) (by decide) (by decide) (by simp), z.mk0 0 [w] (by decide) (by decide) (by decide) (by simp)]
  have le0 : ∀ c ∈ ordr, Z.le 0 c = false := fun c hc => by
    have hc2 : c < 24 ∧ (0 == c || c == 0 || c == 23) = false := by revert hc; revert c; decide
    rw [z.le 0 c (by decide) hc2.1, hc2.2]
  refine kinds_w z h3 (by decide) fun r5 x5 p5 g5 => ?_
  rw [inS_no (asL_at g5) le0]
  simp only [truD_b, Bool.false_eq_true, if_false]
  refine kinds_w z h3 (by decide) fun r6 x6 p6 g6 => ?_
  rw [inS_no (asL_at g6) le0]
  simp only [truD_b, Bool.false_eq_true, if_false]
  refine wSs_n (wSs_c ?_)
  have l1' := pre_at (p5.trans p6) l1
  have l2' := pre_at (p5.trans p6) l2
  clear l1 l2 g5 g6 p5 p6
  have er : Ir.lk [some (.ref 0), some (.ref s), some w, some (.int L), some (.str rs), some (.str sec), some (.ref a1), some (.ref a2), none, none, none] x6 (.of (.lst (.cons (.op .add (.call 4 .nil) (.v 6)) (.cons (.op .add (.call 5 (.cons (.v 2) .nil)) (.v 7)) .nil)))) = none := rfl
  simp only [wS, er, wI, wE, wEs, List.getElem?_cons_zero, List.getElem?_cons_succ, Op2.sem]
  refine made_w z h4 fun r7 x7 p7 g7 => ?_
  rw [addS_ll g7 (pre_at p7 l1') (by simp)]
  simp only [okS]
  refine madeW_w z h5 fun r8 x8 p8 g8 => ?_
  rw [addS_ll g8 (pre_at p8 (app_at (pre_at p7 l2'))) (by simp)]
  simp only [okS]
  refine ⟨by rw [sizeLine_eq]; simp, ?_⟩
  have m1 : Md (([1, 2, 3, 4, 5, 6, 7, 9, 10, 11, 12, 13, 14, 15, 16, 17, 18, 19, 20, 21] : List Nat).map (fun c => D.exn c []) ++ [D.exn 8 [.int L], .exn 22 [.str rs, .int L]]) := ⟨rfl, fun i hi => by
    match i, hi with
    | 0, _ | 1, _ | 2, _ | 3, _ | 4, _ | 5, _ | 6, _ | 7, _ | 8, _ | 9, _ | 10, _ | 11, _ | 12, _ | 13, _ | 14, _ | 15, _ | 16, _ | 17, _ | 18, _ | 19, _ | 20, _ | 21, _ => exact ⟨_, rfl⟩
    | q + 22, hq => exact absurd hq (by omega)⟩
  have m2 : Md (([1, 2, 3, 4, 5, 6, 7, 9, 10, 11, 12, 13, 14, 15, 16, 17, 18, 19, 20, 21] : List Nat).map (fun c => D.exn c []) ++ [D.exn 8 [.int (L + 1)], .exn 22 [.str sec, .int (L + 2)]]) := ⟨rfl, fun i hi => by
    match i, hi with
    | 0, _ | 1, _ | 2, _ | 3, _ | 4, _ | 5, _ | 6, _ | 7, _ | 8, _ | 9, _ | 10, _ | 11, _ | 12, _ | 13, _ | 14, _ | 15, _ | 16, _ | 17, _ | 18, _ | 19, _ | 20, _ | 21, _ => exact ⟨_, rfl⟩
    | q + 22, hq => exact absurd hq (by omega)⟩
  generalize (([1, 2, 3, 4, 5, 6, 7, 9, 10, 11, 12, 13, 14, 15, 16, 17, 18, 19, 20, 21] : List Nat).map (fun c => D.exn c []) ++ [D.exn 8 [.int L], .exn 22 [.str rs, .int L]]) = xs1 at m1 p8 g8 ⊢
  generalize (([1, 2, 3, 4, 5, 6, 7, 9, 10, 11, 12, 13, 14, 15, 16, 17, 18, 19, 20, 21] : List Nat).map (fun c => D.exn c []) ++ [D.exn 8 [.int (L + 1)], .exn 22 [.str sec, .int (L + 2)]]) = xs2 at m2 ⊢
  obtain ⟨x9, e9⟩ : ∃ x, x = (x8 ++ [O.lst xs2]) ++ [O.lst [.ref x7.length, .ref x8.length]] := ⟨_, rfl⟩
  have a9 : asL x9 (.ref (x8 ++ [O.lst xs2]).length) = some [.ref x7.length, .ref x8.length] := by rw [e9]; exact asL_at new_at
  have b9 : x9[x7.length]? = some (.lst xs1) := by rw [e9]; exact app_at (app_at (pre_at p8 new_at))
  have c9 : x9[x8.length]? = some (.lst xs2) := by rw [e9]; exact app_at new_at
  rw [← e9]
  generalize (x8 ++ [O.lst xs2]).length = l9 at a9
  generalize x7.length = l7 at a9 b9
  generalize x8.length = l8 at a9 c9
  unfold srcD
  dsimp only
  rw [a9]
  dsimp only
  refine wItems_inv (fun i τ h => ∃ v8 v9 v10, τ = [some (.ref 0), some (.ref s), some w, some (.int L), some (.str rs), some (.str sec), some (.ref a1), some (.ref a2), v8, v9, v10] ∧ x9 <+: h) (fun i τ h ⟨_, _, _, _, p⟩ => pre_asL p a9) (fun i d τ h kk ed ⟨v8, v9, v10, eτ, p⟩ hk => ?_) (fun τ h ⟨v8, v9, v10, eτ, p⟩ => ?_) ⟨_, _, _, rfl, List.prefix_refl _⟩
  · obtain ⟨m, xs, rfl, hm, md⟩ : ∃ m xs, d = .ref m ∧ x9[m]? = some (.lst xs) ∧ Md xs := by
      match i, ed with
      | 0, ed => cases ed; exact ⟨_, _, rfl, b9, m1⟩
      | 1, ed => cases ed; exact ⟨_, _, rfl, c9, m2⟩
      | i + 2, ed => simp at ed
    subst eτ
    simp only [wG, gAs, setA, List.foldl_cons, List.foldl_nil, List.set_cons_succ, List.set_cons_zero]
    refine wSs_c ?_
    simp only [wS, wE, wEs, wI, lk_r1, List.getElem?_cons_zero, List.getElem?_cons_succ, Bi.sem, lenS_ref (asL_at (pre_at p hm)), md.1, okS]
    refine ⟨⟨by decide, by decide⟩, ?_⟩
    refine wItems_inv (fun i τ h' => ∃ v9 v10, τ = [some (.ref 0), some (.ref s), some w, some (.int L), some (.str rs), some (.str sec), some (.ref a1), some (.ref a2), some (.ref m), v9, v10] ∧ x9 <+: h') (fun _ _ _ _ => trivial) (fun j d' τ' h' kk' ed' ⟨v9', v10', eτ', p'⟩ hk' => ?_) (fun τ' h' ⟨v9', v10', eτ', p'⟩ => ?_) ⟨_, _, rfl, p⟩
    · obtain ⟨hj, rfl⟩ := range_at ed'
      subst eτ'
      simp only [wG, gAs, setA, List.foldl_cons, List.foldl_nil, List.set_cons_succ, List.set_cons_zero]
      exact inner_w z h3 (pre_at p' hm) md (by simpa using hj) fun v h'' p'' => hk' _ _ ⟨_, _, rfl, p'.trans p''⟩
    · subst eτ'
      exact wSs_n (hk _ _ ⟨_, _, _, rfl, p'⟩)
  · subst eτ
    refine wSs_c ?_
    simp only [wS, wE]
end
end Mi

set_option Elab.async false
set_option linter.all false
set_option maxRecDepth 100000
set_option maxHeartbeats 0
namespace Hd
open PySem PySem.Spec PyProof.Rows L2
def top (i : Nat) : Stmt := PySem.Challenge.pw_fillbooks_k38_errors.main.body.getD i (.Pass ⟨0, 0, 0, 0⟩)
def d0 : Mi.Dd := ⟨"_law_source", ["_law_script", "_law_cells", "_law_k"], ["_law_script"], top 25⟩ -- _law_source
def d1 : Mi.Dd := ⟨"_law_draw", ["_law_source_here", "_law_limit", "_law_cells", "_law_turn", "_law_place", "_law_cell", "_law_number"], ["_law_source_here", "_law_limit"], top 26⟩ -- _law_draw
def d2 : Mi.Dd := ⟨"_law_pick", ["_law_source_here", "_law_values"], ["_law_source_here", "_law_values"], top 27⟩ -- _law_pick
def d3 : Mi.Dd := ⟨"_law_kinds", ["_law_e", "_law_found"], ["_law_e"], top 28⟩ -- _law_kinds
def d4 : Mi.Dd := ⟨"_law_made", ["_law_found"], [], top 29⟩ -- _law_made
def d5 : Mi.Dd := ⟨"_law_made_with", ["_law_word", "_law_found"], ["_law_word"], top 30⟩ -- _law_made_with
def d6 : Mi.Dd := ⟨"law", ["_law_script", "_law_source_here", "_law_word", "_law_line", "_law_reason", "_law_second", "_law_last", "_law_more", "_law_made_here", "_law_at", "_law_k"], ["_law_script"], top 31⟩ -- law
def inits : List He.DefD := [⟨("InvalidText", some "__init__"), "__init__", "InvalidText.__init__", defArgs (inClass (top 9) 0), defBody (inClass (top 9) 0), defScope (inClass (top 9) 0), [], []⟩,
  ⟨("InvalidLine", some "__init__"), "__init__", "InvalidLine.__init__", defArgs (inClass (top 23) 0), defBody (inClass (top 23) 0), defScope (inClass (top 23) 0), [], []⟩]
def own : List Str := ["FillError", "InvalidTerm", "InvalidWays", "InvalidPairs", "InvalidRule", "InvalidBook", "InvalidStore", "TooMany", "InvalidText", "InvalidRelations", "InvalidRelation", "InvalidRow", "NotPlain", "InvalidQuestion", "InvalidFact", "InvalidChange", "InvalidNumber", "FactStands", "NoSuchFact", "NothingToUndo", "NothingToRedo", "UnknownDeed", "InvalidLine"]
def anc : List (List Nat) := [[0, 23], [1, 0, 23], [2, 0, 23], [3, 0, 23], [4, 0, 23], [5, 0, 23], [6, 0, 23], [7, 0, 23], [8, 0, 23], [9, 0, 23], [10, 0, 23], [11, 0, 23], [12, 0, 23], [13, 0, 23], [14, 0, 23], [15, 0, 23], [16, 0, 23], [17, 0, 23], [18, 0, 23], [19, 0, 23], [20, 0, 23], [21, 0, 23], [22, 0, 23]]
def xf : List (List Str) := [[], [], [], [], [], [], [], [], ["at"], [], [], [], [], [], [], [], [], [], [], [], [], [], ["reason", "line"]]
def p : Mi.Pd := { own := own, anc := anc, xf := xf, more := ["ValueError"], defs := [d0, d1, d2, d3, d4, d5, d6], inits := inits, cst := [], free := ["ValueError", "abs", "int", "isinstance", "len", "range"] }
def names0 : List PySem.Str := [("FillError" : PySem.Str), ("InvalidTerm" : PySem.Str), ("InvalidWays" : PySem.Str), ("InvalidPairs" : PySem.Str), ("InvalidRule" : PySem.Str), ("InvalidBook" : PySem.Str), ("InvalidStore" : PySem.Str), ("TooMany" : PySem.Str), ("InvalidText" : PySem.Str), ("InvalidRelations" : PySem.Str), ("InvalidRelation" : PySem.Str), ("InvalidRow" : PySem.Str), ("NotPlain" : PySem.Str), ("InvalidQuestion" : PySem.Str), ("InvalidFact" : PySem.Str), ("InvalidChange" : PySem.Str), ("InvalidNumber" : PySem.Str), ("FactStands" : PySem.Str), ("NoSuchFact" : PySem.Str), ("NothingToUndo" : PySem.Str), ("NothingToRedo" : PySem.Str), ("UnknownDeed" : PySem.Str), ("InvalidLine" : PySem.Str), ("_law_source" : PySem.Str), ("_law_draw" : PySem.Str), ("_law_pick" : PySem.Str), ("_law_kinds" : PySem.Str), ("_law_made" : PySem.Str), ("_law_made_with" : PySem.Str)]
def names : List PySem.Str := names0
abbrev R : PySem.W.OpenRow := PySem.W.OpenLaw.row PySem.Challenge.rw_fillbooks_k38_errors
abbrev hk : PySem.W.Hook := Mi.hookX 4 p.bb p.fa p.fn
def ob (s : PySem.W.SharedT) : Bool × He.AlD := Mi.obsXG 4 p.bb p.fa p.fn (HandSHeadRun.getT s)
theorem ob_eq (s : PySem.W.SharedT) : ob s = hk.obs s.abs := Mi.obsXG_eq (HandSHeadRun.getT_eq s)
theorem ok : p.ok = true := by kernel_rfl
theorem run (w : World) : HandSHeadRun.RunEq R (PySem.W.view R.prog [31]) hk ob 15000 names w := by
  intro os
  kernel_rfl
theorem bd0 : Mi.BindOk d0 := fun _ _ _ _ _ _ us hl => match us, hl with | [_], _ => rfl
theorem bd1 : Mi.BindOk d1 := fun _ _ _ _ _ _ us hl => match us, hl with | [_, _], _ => rfl
theorem bd2 : Mi.BindOk d2 := fun _ _ _ _ _ _ us hl => match us, hl with | [_, _], _ => rfl
theorem bd3 : Mi.BindOk d3 := fun _ _ _ _ _ _ us hl => match us, hl with | [_], _ => rfl
theorem bd4 : Mi.BindOk d4 := fun _ _ _ _ _ _ us hl => match us, hl with | [], _ => rfl
theorem bd5 : Mi.BindOk d5 := fun _ _ _ _ _ _ us hl => match us, hl with | [_], _ => rfl
theorem bd6 : Mi.BindOk d6 := fun _ _ _ _ _ _ us hl => match us, hl with | [_], _ => rfl
theorem binds : ∀ d ∈ p.defs, Mi.BindOk d := by
  intro d hd
  simp only [p, List.mem_cons, List.not_mem_nil, or_false] at hd
  rcases hd with rfl | rfl | rfl | rfl | rfl | rfl | rfl
  · exact bd0
  · exact bd1
  · exact bd2
  · exact bd3
  · exact bd4
  · exact bd5
  · exact bd6
theorem initOk {K : PySem.W.Frag} {P : Program} {w : World} {mg : Str → Option Value} {base : Heap} (c : He.SaysD p.fa p.fn K) (hB : p.bb K = true) : Mi.InitOk p K P w mg base := by
  intro c0 hc hx
  have hc : c0 < 23 := hc
  match c0, hc with
  | 0, _ => exact absurd rfl hx
  | 1, _ => exact absurd rfl hx
  | 2, _ => exact absurd rfl hx
  | 3, _ => exact absurd rfl hx
  | 4, _ => exact absurd rfl hx
  | 5, _ => exact absurd rfl hx
  | 6, _ => exact absurd rfl hx
  | 7, _ => exact absurd rfl hx
  | 8, _ =>
    have k0 := Mi.cls_at hB (c := 8) (by decide)
    unfold Mi.clsB at k0
    rw [Bool.and_eq_true] at k0
    obtain ⟨q1, q2⟩ := Mi.excB_ok k0.1
    obtain ⟨O, iC, tI⟩ := Mi.oexB_ok (C := He.ga K "InvalidText") k0.2
    obtain ⟨fd, F⟩ := c.def_ 7 (d := inits.getD 0 d0.fn) rfl
    exact ⟨fd, ["self", "at"], 1, Mi.init1 O (q2 "at" (by decide)) F (Mi.fnScB_ok (by kernel_rfl)) (by decide) (by decide), by decide, FunD.bindsN F fun _ _ _ _ _ _ us hl => match us, hl with | [_, _], _ => rfl⟩
  | 9, _ => exact absurd rfl hx
  | 10, _ => exact absurd rfl hx
  | 11, _ => exact absurd rfl hx
  | 12, _ => exact absurd rfl hx
  | 13, _ => exact absurd rfl hx
  | 14, _ => exact absurd rfl hx
  | 15, _ => exact absurd rfl hx
  | 16, _ => exact absurd rfl hx
  | 17, _ => exact absurd rfl hx
  | 18, _ => exact absurd rfl hx
  | 19, _ => exact absurd rfl hx
  | 20, _ => exact absurd rfl hx
  | 21, _ => exact absurd rfl hx
  | 22, _ =>
    have k0 := Mi.cls_at hB (c := 22) (by decide)
    unfold Mi.clsB at k0
    rw [Bool.and_eq_true] at k0
    obtain ⟨q1, q2⟩ := Mi.excB_ok k0.1
    obtain ⟨O, iC, tI⟩ := Mi.oexB_ok (C := He.ga K "InvalidLine") k0.2
    obtain ⟨fd, F⟩ := c.def_ 8 (d := inits.getD 1 d0.fn) rfl
    exact ⟨fd, ["self", "line", "reason"], 1, Mi.init2 O (q2 "line" (by decide)) (q2 "reason" (by decide)) F (Mi.fnScB_ok (by kernel_rfl)) (by decide) (by decide) (by decide) (by decide), by decide, FunD.bindsN F fun _ _ _ _ _ _ us hl => match us, hl with | [_, _, _], _ => rfl⟩
end Hd
open PySem PySem.W PySem.Calls PyProof.Rows
theorem Hd.holds {n : Nat} (hn : n ≤ 60) (hw : ∀ ns : List Int, ns.length ≤ 63 → Mi.WPc Hd.p.Z Hd.p.B n 6 [.ref 0] [.fro (ns.map Mi.D.int)] (fun d _ => d = .bl true) fun _ _ _ => False) : PySem.Challenge.rw_fillbooks_k38_errors.Holds := by
  w_on; o_law
  refine HandSHeadRun.head_any (r := OpenLaw.row PySem.Challenge.rw_fillbooks_k38_errors) (q := view (OpenLaw.row PySem.Challenge.rw_fillbooks_k38_errors).prog [31]) (H := Hd.hk) (ob := Hd.ob) (M := 15000) (loose := Hd.names) (d := HandSHeadRun.topDef (OpenLaw.row PySem.Challenge.rw_fillbooks_k38_errors).prog 31) (kwd := []) Hd.ob_eq
    (by kernel_rfl) (fun s => by kernel_rfl) Hd.run (by kernel_rfl) (by kernel_rfl) (by kernel_rfl) (by rfl) (by first | assumption | decide +kernel) (by decide +kernel) ⟨rfl, rfl, rfl, rfl, rfl, by decide +kernel⟩ ?hw ?hc
  case hw => w_witness2
  case hc =>
    refine L2.walk_ofE (l := PySem.Challenge.rw_fillbooks_k38_errors) (n := 63) (k := n + 3) (x := "_law_script") (CX := L2.CX0) rfl (by decide) (by kernel_rfl) (L2.Room.mono (k := 63) ⟨rfl, by decide, by decide⟩ (by omega)) ?F (fun _ _ _ _ z => z)
    intro w mg fa h Y G hmg0
    obtain ⟨K, KX, c, hB⟩ := Y
    have hmg : mg ("law" : PySem.Str) = some (.ref fa) := by
      have e : (HandSHeadRun.topDef (OpenLaw.row PySem.Challenge.rw_fillbooks_k38_errors).prog 31).name = ("law" : PySem.Str) := by kernel_rfl
      rw [← e]
      exact hmg0
    obtain ⟨fd, sp, b1, b2, b3⟩ := Mi.law_fn (p := Hd.p) (x := "law") (s := "_law_script") (f := 6) (n := n) (P := (PySem.Challenge.rw_fillbooks_k38_errors).prog) (w := w) KX G c hB Hd.ok Hd.binds (fun base => Hd.initOk c hB) (Mi.ixs_in rfl) rfl hmg hw
    exact ⟨K, fd, sp, KX, b1, b2, b3⟩

set_option Elab.async false
set_option linter.all false
set_option maxRecDepth 100000
set_option maxHeartbeats 0
namespace Hd
open PySem PySem.Spec PyProof.Rows L2
theorem z38 : Mi.Z38 p.Z where
  nx := rfl
  le := fun e c he hc => (by decide +kernel : ∀ e < 23, ∀ c < 24, p.Z.le e c = (e == c || c == 0 || c == 23)) e he c hc
  mk0 := fun c ds hc h8 h22 hz => by
    have e : p.xf.getD c [] = [] := by
      have q : ∀ c < 23, c ≠ 8 → c ≠ 22 → p.xf.getD c [] = [] := by decide +kernel
      exact q c hc h8 h22
    show (match p.xf.getD c [] with
      | [] => if ds.length ≤ 1000 then some [] else none
      | l => if ds.length = l.length ∧ ds.length ≤ 1000 then some ds.reverse else none) = some []
    rw [e]
    exact if_pos hz
  mk8 := fun d => rfl
  mk22 := fun d e => rfl
  at_ := by decide +kernel
  line := by decide +kernel
  reas := by decide +kernel
end Hd
theorem PySem.Challenge.cw_fillbooks_k38_errors_holds : PySem.Challenge.rw_fillbooks_k38_errors.Holds :=
  Hd.holds (n := 4) (by decide) fun ns _ => Mi.law38_w (n := 1) Hd.z38 (by kernel_rfl) (by kernel_rfl) (by kernel_rfl) (by kernel_rfl) (by kernel_rfl) (by kernel_rfl) (by kernel_rfl) ns

